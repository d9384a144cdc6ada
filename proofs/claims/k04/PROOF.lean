import PyProof.Rows.All
import Wide.All
import OpenK.AllK
import Wide.FinOn
import Lean
import PyProof.EqAt
import PyProof.EqKinds
import PyProof.TupleCall
import PySem.Challenge.RW_cometorest_k04_too_many_states
import KE.KMinKey
import KE.KLam
import KE.KNestM
import KE.KDictList
import PyProof.EnumMake
import PyProof.EnumFor
import PyProof.EnumStmt
import PyProof.AttrMissHeap
import KE.KDictOf
import PyProof.StrLawsChain
import PyProof.StrLawsTight
import PyProof.Rows.StrItems
import PyProof.Rows.StrSplitCount
import PyProof.FString
import KE.KIntText
import KE.KTryMore
import PyProof.NsDelKeeps
import PyProof.ExcClass3
import PyProof.ExcBaseAll.ValueError
import PyProof.ExcAttrAll.ValueError
import PyProof.NeKinds
import PyProof.TupleKey
set_option Elab.async false
set_option linter.all false
set_option maxRecDepth 100000
-- MOD Lay
/-! THE HAND LAYER, for ints, bools, texts, own classes, LISTS and tuples (index, slices, in, append, pop ..), calls, loops. Paste it whole ahead of your own text; what your proof does not reach may be deleted. -/
namespace L2
open PySem PySem.Spec PyProof.Rows
noncomputable abbrev Key := Sum Int Str
noncomputable def keyIs : Key → Value → Bool
  | .inl k, v => Value.isInt k v
  | .inr x, v => Value.isStrOf x v
noncomputable def keyH (w : World) : Key → Int
  | .inl k => hashInt k
  | .inr x => hashStr w x
theorem keyIs_shape : ∀ {k : Key} {v : Value}, keyIs k v = true → (∃ i t, k = Sum.inl i ∧ v = Value.int i t) ∨ (∃ x t, k = Sum.inr x ∧ v = Value.str x t)
  | .inl i, v, h => by
    obtain ⟨t, e⟩ := Value.isInt_shape (k := i) (v := v) h
    exact .inl ⟨i, t, rfl, e⟩
  | .inr x, v, h => by
    obtain ⟨t, e⟩ := Value.isStrOf_shape (x := x) (v := v) h
    exact .inr ⟨x, t, rfl, e⟩
theorem key_ll (a b : Int) : decide ((Sum.inl a : Key) = Sum.inl b) = (a == b) := by
  by_cases e : a = b
  · subst e; simp
  · have h : ¬ (Sum.inl a : Key) = Sum.inl b := fun q => e (Sum.inl.inj q)
    rw [decide_eq_false h]
    exact (beq_eq_false_iff_ne.mpr e).symm
theorem key_rr (a b : Str) : decide ((Sum.inr a : Key) = Sum.inr b) = decide (a = b) := by
  by_cases e : a = b
  · subst e; simp
  · have h : ¬ (Sum.inr a : Key) = Sum.inr b := fun q => e (Sum.inr.inj q)
    rw [decide_eq_false h, decide_eq_false e]
theorem key_lr (a : Int) (b : Str) : decide ((Sum.inl a : Key) = Sum.inr b) = false := decide_eq_false (fun q => nomatch q)
theorem key_rl (a : Str) (b : Int) : decide ((Sum.inr a : Key) = Sum.inl b) = false := decide_eq_false (fun q => nomatch q)

noncomputable def mixKind (prog : Program) (w : World) : PySem.KeyKind prog w Key where
  is := keyIs
  hash := keyH w
  inj := fun v a b ha hb => by
    rcases keyIs_shape ha with ⟨i, t, rfl, rfl⟩ | ⟨x, t, rfl, rfl⟩
    · rcases keyIs_shape hb with ⟨j, u, rfl, e⟩ | ⟨y, u, rfl, e⟩
      · injection e with e1 _; rw [e1]
      · exact nomatch e
    · rcases keyIs_shape hb with ⟨j, u, rfl, e⟩ | ⟨y, u, rfl, e⟩
      · exact nomatch e
      · injection e with e1 _; rw [e1]
  byValue := fun k v h => by
    rcases keyIs_shape h with ⟨i, t, rfl, rfl⟩ | ⟨x, t, rfl, rfl⟩ <;> rfl
  pyHash := fun hv h => by
    rcases keyIs_shape hv with ⟨i, t, rfl, rfl⟩ | ⟨x, t, rfl, rfl⟩
    · exact wpAny_pyHash_int h
    · exact wpAny_pyHash_str h
  eqBool := fun hu hv h => by
    rcases keyIs_shape hu with ⟨i, t, rfl, rfl⟩ | ⟨x, t, rfl, rfl⟩
    · rcases keyIs_shape hv with ⟨j, u, rfl, rfl⟩ | ⟨y, u, rfl, rfl⟩
      · rw [key_ll] at h; exact wpAny_eqBool_int h
      · rw [key_lr] at h; exact SeqAt.EqAt.int_str i t y u _ _ _ _ h
    · rcases keyIs_shape hv with ⟨j, u, rfl, rfl⟩ | ⟨y, u, rfl, rfl⟩
      · rw [key_rl] at h; exact SeqAt.EqAt.str_int x t j u _ _ _ _ h
      · rw [key_rr] at h; exact wpAny_eqBool_str h
  «strs» := fun k x t v h => by
    rcases keyIs_shape h with ⟨i, u, rfl, e⟩ | ⟨y, u, rfl, e⟩
    · exact nomatch e
    · injection e with e1 _
      subst e1
      cases v <;> rfl

end L2
namespace L2
open PySem PySem.Spec PyProof.Rows
inductive V where
  | non | bl (b : Bool) | int (i : Int) | str (x : Str) | byt (b : Array UInt8) | flt (b : UInt64) | ref (a : Addr) | ty (n : String)
  deriving DecidableEq

noncomputable def RelV : V → Value → Prop
  | .non, u => u = Value.none
  | .bl b, u => u = Value.bool b
  | .int i, u => ∃ t, u = Value.int i t
  | .str x, u => ∃ t, u = Value.str x t
  | .byt b, u => ∃ t, u = Value.bytes b t
  | .flt b, u => ∃ t, u = Value.float b t
  | .ref a, u => u = Value.ref a
  | .ty n, u => u = Value.type n

noncomputable abbrev Vals : List V → List Value → Prop := Paired RelV
theorem Vals.length {xs : List V} {us : List Value} (r : Vals xs us) : xs.length = us.length := Paired.length r
theorem Vals.get : ∀ {xs : List V} {us : List Value} {i : Nat} {x : V}, Vals xs us → xs[i]? = some x → ∃ u, us[i]? = some u ∧ RelV x u
  | _, _, _, _, .nil, e => by simp at e
  | _, _, 0, _, .cons r _, e => by simp at e; subst e; exact ⟨_, rfl, r⟩
  | _, _, i + 1, x, .cons _ t, e => by
    obtain ⟨u, h1, h2⟩ := Vals.get (i := i) (x := x) t (by simpa using e)
    exact ⟨u, by simpa using h1, h2⟩
theorem Vals.set {x : V} {u : Value} (r : RelV x u) : ∀ {xs : List V} {us : List Value} (i : Nat), Vals xs us → Vals (xs.set i x) (us.set i u)
  | _, _, _, .nil => .nil
  | _, _, 0, .cons _ t => .cons r t
  | _, _, i + 1, .cons q t => .cons q (Vals.set r i t)
theorem Vals.append : ∀ {xs ys : List V} {us ws : List Value}, Vals xs us → Vals ys ws → Vals (xs ++ ys) (us ++ ws)
  | _, _, _, _, .nil, s => s
  | _, _, _, _, .cons r t, s => .cons r (Vals.append t s)
theorem Vals.take : ∀ {xs : List V} {us : List Value} (n : Nat), Vals xs us → Vals (xs.take n) (us.take n)
  | _, _, 0, _ => .nil
  | _, _, _ + 1, .nil => .nil
  | _, _, n + 1, .cons r t => .cons r (Vals.take n t)
theorem Vals.drop : ∀ {xs : List V} {us : List Value} (n : Nat), Vals xs us → Vals (xs.drop n) (us.drop n)
  | _, _, 0, r => r
  | _, _, _ + 1, .nil => .nil
  | _, _, n + 1, .cons _ t => Vals.drop n t
noncomputable def RelO : Option V → Option Value → Prop
  | some v, some u => RelV v u
  | none, none => True
  | _, _ => False
noncomputable def KV {κ : Type} : List (κ × V) → List (κ × Value) → Prop := Paired fun (p : κ × V) (q : κ × Value) => p.1 = q.1 ∧ RelV p.2 q.2

noncomputable def kV : Key → V
  | .inl i => .int i
  | .inr x => .str x

inductive HO where
  /-- a list -/
  | lst (xs : List V)
  /-- a tuple (never changes) -/
  | tup (xs : List V)
  /-- a dict whose keys are ints and texts; one whose keys are tuples of ints and texts (the empty one is both) -/
  | dK (kvs : List (Key × V)) | dT (kvs : List (List Key × V))
  /-- a set of ints: its members, its size -/
  | set (S : Int → Bool) (n : Nat)
  /-- an instance of the class at C, its dict at dx, its attributes -/
  | ins (C dx : Addr) (fs : List (Str × V))
  /-- the dict of the instance at x -/
  | own (x : Addr)
  /-- the dict of an exception -/
  | xd (fs : List (Str × V))
  /-- a bound method, f of x -/
  | met (f x : Addr)
  /-- a range object lo, lo + 1, .. below hi -/
  | rng (lo hi : Int)
  /-- a thing that is known to the object (the script; a dict while a loop walks it): read, never written while it is so -/
  | frz (o : Obj) (u : HO)
  /-- a code object's table -/
  | tbl (ps : Array Value)
  /-- any other thing, by what is true of its one object (a def of one's own: SetO a S n := HO.ext fun h => ..) -/
  | ext (φ : Heap → Prop)

noncomputable abbrev Hp := Addr → Option HO
noncomputable def upd (H : Hp) (a : Addr) (o : HO) : Hp := fun b => if b = a then some o else H b
theorem upd_same {H : Hp} {a : Addr} {o : HO} : upd H a o a = some o := by unfold upd; rw [if_pos rfl]
theorem upd_ne {H : Hp} {a b : Addr} {o : HO} (h : b ≠ a) : upd H a o b = H b := by unfold upd; rw [if_neg h]
theorem ne_of_none {H : Hp} {a b : Addr} {o : HO} (h : H a = some o) (h' : H b = none) : a ≠ b := by
  intro e; subst e; rw [h] at h'; cases h'

section
variable (P : Program) (w : World)
noncomputable def ObjOk (H : Hp) (h : Heap) (a : Addr) : HO → Prop
  | .lst xs => xs.length ≤ sizeLine ∧ ∃ (its : List Value) (n : Nat), Vals xs its ∧ h.get? a = some { cls := .type "list", data := .seq its.toArray n }
  | .tup xs => xs.length ≤ sizeLine ∧ ∃ its : List Value, Vals xs its ∧ IsTup h a its.toArray
  | .dK kvs => kvs.length ≤ sizeLine ∧ (a == sysModules) = false ∧ ∃ vs, KV kvs vs ∧ h.DictOf (mixKind P w) a vs
  | .dT kvs => kvs.length ≤ sizeLine ∧ (a == sysModules) = false ∧ ∃ xs : List (List Key × Addr × Value),
      Paired (fun (p : List Key × V) (q : List Key × Addr × Value) => p.1 = q.1 ∧ H q.2.1 = some (.tup (p.1.map kV)) ∧ RelV p.2 q.2.2) kvs xs ∧
      ∃ o es ep, h.get? a = some o ∧ o.ExactDict ∧ o.data = .dict es ep ∧ es.toList = xs.map (entryOfKey (tupleKind (mixKind P w))) ∧ (xs.map (·.1)).Nodup
  | .set S n => h.SetOf (intKind P w) a S n
  | .ins C dx fs => H dx = some (.own a) ∧ fs.length ≤ 1000 ∧ dx ≠ a ∧ h.get? a = some (PySem.W.instObj C dx) ∧
      ∃ mA, h.Ns1 dx mA ∧ (∀ f, RelO (fs.lookup f) (mA f)) ∧ PySem.Within mA (fs.map (·.1))
  | .own _ => ∃ o, h.get? a = some o
  | .xd fs => ∃ mA, h.Ns1 a mA ∧ ∀ f, RelO (fs.lookup f) (mA f)
  | .rng lo hi => ∃ t u v, h.get? a = some { cls := .type "range", data := .fields #[.int lo t, .int hi u, .int 1 v] }
  | .frz o u => h.get? a = some o ∧ ObjOk H h a u
  | .tbl ps => h.get? a = some { cls := .none, data := .fields ps }
  | .met f x => h.get? a = some (PySem.W.methodObj (.ref f) (.ref x))
  | .ext φ => φ h ∧ (∃ o, h.get? a = some o) ∧ ∀ h1 h2 : Heap, φ h1 → (∀ o, h1.get? a = some o → h2.get? a = some o) → φ h2
noncomputable def HOk (H : Hp) (h : Heap) : Prop := ∀ a o, H a = some o → ObjOk P w H h a o
end
section
variable {P : Program} {w : World} {H H' : Hp} {h h' : Heap} {a : Addr} {o : HO}
theorem ObjOk.lt (x : ObjOk P w H h a o) : a < h.objs.size := by
  cases o with
  | lst xs => obtain ⟨_, _, _, _, e⟩ := x; exact Heap.lt_size e
  | tup xs => obtain ⟨_, _, _, p⟩ := x; exact p.lt
  | dK kvs => obtain ⟨_, _, _, _, o, _, _, e, _⟩ := x; exact Heap.lt_size e
  | dT kvs => obtain ⟨_, _, _, _, o, _, _, e, _⟩ := x; exact Heap.lt_size e
  | set S n => obtain ⟨o, _, _, _, e, _⟩ := x; exact Heap.lt_size e
  | ins C dx fs => obtain ⟨_, _, _, e, _⟩ := x; exact Heap.lt_size e
  | own y => obtain ⟨_, e⟩ := x; exact Heap.lt_size e
  | xd fs => obtain ⟨_, ⟨_, _, _, e, _⟩, _⟩ := x; exact Heap.lt_size e
  | rng lo hi => obtain ⟨_, _, _, e⟩ := x; exact Heap.lt_size e
  | frz ob u => obtain ⟨e, _⟩ := x; exact Heap.lt_size e
  | tbl ps => exact Heap.lt_size (show h.get? a = some _ from x)
  | met f y => exact Heap.lt_size (show h.get? a = some _ from x)
  | ext φ => obtain ⟨_, ⟨_, e⟩, _⟩ := x; exact Heap.lt_size e
theorem Paired.mapP {α β : Type} {F G : α → β → Prop} : ∀ {l₁ : List α} {l₂ : List β}, Paired F l₁ l₂ → (∀ a b, F a b → G a b) → Paired G l₁ l₂
  | _, _, .nil, _ => .nil
  | _, _, .cons r t, f => .cons (f _ _ r) (Paired.mapP t f)
theorem ObjOk.stay (x : ObjOk P w H h a o) (k : ∀ b u, (b = a ∨ H b = some (.own a)) → h.get? b = some u → h'.get? b = some u)
    (ho : ∀ b, H b = some (.own a) → H' b = some (.own a)) (ht : ∀ b xs, H b = some (.tup xs) → H' b = some (.tup xs)) : ObjOk P w H' h' a o := by
  induction o with
  | lst xs => obtain ⟨z, its, n, r, e⟩ := x; exact ⟨z, its, n, r, k _ _ (.inl rfl) e⟩
  | tup xs => obtain ⟨z, its, r, ob, e, c⟩ := x; exact ⟨z, its, r, ob, k _ _ (.inl rfl) e, c⟩
  | dK kvs => obtain ⟨z, y, vs, r, ob, es, ep, e, c⟩ := x; exact ⟨z, y, vs, r, ob, es, ep, k _ _ (.inl rfl) e, c⟩
  | dT kvs =>
    obtain ⟨z, y, xs, r, ob, es, ep, e, c⟩ := x
    exact ⟨z, y, xs, Paired.mapP r fun p q z => ⟨z.1, ht _ _ z.2.1, z.2.2⟩, ob, es, ep, k _ _ (.inl rfl) e, c⟩
  | set S n => obtain ⟨ob, es, ep, t, e, c⟩ := x; exact ⟨ob, es, ep, t, k _ _ (.inl rfl) e, c⟩
  | ins C dx fs =>
    obtain ⟨d, z, ne, e, mA, ⟨od, es, ep, e2, c⟩, r⟩ := x
    exact ⟨ho _ d, z, ne, k _ _ (.inl rfl) e, mA, ⟨od, es, ep, k _ _ (.inr d) e2, c⟩, r⟩
  | own y => obtain ⟨ob, e⟩ := x; exact ⟨ob, k _ _ (.inl rfl) e⟩
  | xd fs => obtain ⟨mA, ⟨od, es, ep, e, c⟩, r⟩ := x; exact ⟨mA, ⟨od, es, ep, k _ _ (.inl rfl) e, c⟩, r⟩
  | rng lo hi => obtain ⟨t, u, v, e⟩ := x; exact ⟨t, u, v, k _ _ (.inl rfl) e⟩
  | frz ob u ih => obtain ⟨e, q⟩ := x; exact ⟨k _ _ (.inl rfl) e, ih q⟩
  | tbl ps =>
    have e : h.get? a = some { cls := .none, data := .fields ps } := x
    show h'.get? a = some { cls := .none, data := .fields ps }
    exact k a _ (.inl rfl) e
  | met f y =>
    have e : h.get? a = some (PySem.W.methodObj (.ref f) (.ref y)) := x
    show h'.get? a = some (PySem.W.methodObj (.ref f) (.ref y))
    exact k a _ (.inl rfl) e
  | ext φ => obtain ⟨p, ⟨o, e⟩, st⟩ := x; exact ⟨st _ _ p fun o q => k _ _ (.inl rfl) q, ⟨o, k _ _ (.inl rfl) e⟩, st⟩
theorem HOk.lt (x : HOk P w H h) (e : H a = some o) : a < h.objs.size := (x a o e).lt
theorem HOk.fresh (x : HOk P w H h) (e : h.objs.size ≤ a) : H a = none := by
  cases q : H a with
  | none => rfl
  | some u => exact absurd (Nat.lt_of_lt_of_le (x.lt q) e) (Nat.lt_irrefl _)
theorem HOk.kept (x : HOk P w H h) (k : ∀ b u, h.get? b = some u → h'.get? b = some u) : HOk P w H h' := fun a o e =>
  (x a o e).stay (fun b u _ q => k b u q) (fun _ q => q) fun _ _ q => q
theorem HOk.laid (x : HOk P w H h) (k : ∀ b u, h.get? b = some u → h'.get? b = some u) (hp : h.objs.size ≤ a) (new : ObjOk P w (upd H a o) h' a o) : HOk P w (upd H a o) h' := fun b u e => by
  have hn := x.fresh hp
  by_cases hb : b = a
  · subst hb; rw [upd_same] at e; cases e; exact new
  · rw [upd_ne hb] at e
    exact (x b u e).stay (fun c v _ q => k c v q) (fun c q => by rw [upd_ne (ne_of_none q hn)]; exact q) fun c xs q => by rw [upd_ne (ne_of_none q hn)]; exact q
end
noncomputable def Rd (H : Hp) (a : Addr) (u : HO) : Prop := H a = some u ∨ ∃ o, H a = some (.frz o u)
theorem Rd.ok {P : Program} {w : World} {H : Hp} {h : Heap} {a : Addr} {u : HO} (r : Rd H a u) (x : HOk P w H h) : ObjOk P w H h a u := by
  rcases r with r | ⟨o, r⟩
  · exact x a u r
  · obtain ⟨_, q⟩ := x a _ r
    exact q
noncomputable def Mut : Option HO → Prop
  | some (.lst _) => True
  | some (.dK _) => True
  | some (.dT _) => True
  | some (.set _ _) => True
  | some (.ins _ _ _) => True
  | some (.ext _) => True
  | _ => False
section
variable {P : Program} {w : World} {H : Hp} {h h' : Heap} {x e : Addr} {o' : HO}
theorem HOk.write (ok : HOk P w H h) (mu : Mut (H x)) (he : e = x ∨ H e = some (.own x)) (k : ∀ b u, b ≠ e → h.get? b = some u → h'.get? b = some u) (heo : ∃ u, h'.get? e = some u)
    (new : ObjOk P w (upd H x o') h' x o') : HOk P w (upd H x o') h' := fun b u q => by
  have nown : ∀ c y, H c = some (.own y) → c ≠ x := fun c y r z => by subst z; rw [r] at mu; exact mu
  have ntup : ∀ c xs, H c = some (.tup xs) → c ≠ x := fun c xs r z => by subst z; rw [r] at mu; exact mu
  by_cases hb : b = x
  · subst hb; rw [upd_same] at q; cases q; exact new
  · rw [upd_ne hb] at q
    by_cases hbe : b = e
    · have q' : H b = some (.own x) := by
        rcases he with z | z
        · exact absurd (hbe.trans z) hb
        · rw [hbe]; exact z
      rw [q] at q'; cases q'
      obtain ⟨v, hv⟩ := heo
      exact ⟨v, by rw [hbe]; exact hv⟩
    · refine (ok b u q).stay (fun c v hc r => k c v ?_ r) (fun c r => by rw [upd_ne (nown c b r)]; exact r) fun c xs r => by rw [upd_ne (ntup c xs r)]; exact r
      rcases hc with rfl | hc
      · exact hbe
      · rintro rfl
        rcases he with z | z
        · exact nown c b hc z
        · rw [hc] at z; cases z; exact hb rfl
end
/-! ### kept unless tracked; of the frames at fs (the callers') the slots may change (an exception that passes writes there); of the records at ex (iterators) nothing is said -/
structure Un (fs ex : List Addr) (H H' : Hp) (h h' : Heap) : Prop where
  keep : ∀ b o, h.get? b = some o → H b = none → b ∉ fs → b ∉ ex → h'.get? b = some o
  slot : ∀ b o, h.get? b = some o → H b = none → b ∈ fs → b ∉ ex → ∃ sl, h'.get? b = some { o with slots := sl }
  free : ∀ b o, h.get? b = some o → H b = none → b ∉ ex → H' b = none
  there : ∀ b o, h.get? b = some o → b ∉ ex → ∃ o', h'.get? b = some o'
  tups : ∀ b xs, H b = some (.tup xs) → H' b = some (.tup xs)
  frzs : ∀ b o u, H b = some (.frz o u) → H' b = some (.frz o u)
  tbls : ∀ b ps, H b = some (.tbl ps) → ∃ more, H' b = some (.tbl (ps ++ more))
section
variable {fs fs' ex ex' : List Addr} {H H1 H2 : Hp} {h h1 h2 h' : Heap} {a x e : Addr} {o : HO}
theorem Un.any (u : Un fs ex H H1 h h1) {b : Addr} {ob : Obj} (q : h.get? b = some ob) (n : H b = none) (hx : b ∉ ex) : ∃ sl, h1.get? b = some { ob with slots := sl } := by
  by_cases hb : b ∈ fs
  · exact u.slot b ob q n hb hx
  · exact ⟨ob.slots, u.keep b ob q n hb hx⟩
theorem Un.trans (a : Un fs ex H H1 h h1) (b : Un fs ex H1 H2 h1 h2) : Un fs ex H H2 h h2 where
  keep := fun c ob q n hc hx => b.keep c ob (a.keep c ob q n hc hx) (a.free c ob q n hx) hc hx
  slot := fun c ob q n hc hx => by
    obtain ⟨sl, e1⟩ := a.slot c ob q n hc hx
    obtain ⟨sl', e2⟩ := b.slot c _ e1 (a.free c ob q n hx) hc hx
    exact ⟨sl', e2⟩
  free := fun c ob q n hx => by
    obtain ⟨o', e1⟩ := a.there c ob q hx
    exact b.free c o' e1 (a.free c ob q n hx) hx
  there := fun c ob q hx => by
    obtain ⟨o', e1⟩ := a.there c ob q hx
    exact b.there c o' e1 hx
  tups := fun c xs q => b.tups c xs (a.tups c xs q)
  frzs := fun c ob xs q => b.frzs c ob xs (a.frzs c ob xs q)
  tbls := fun c ps q => by
    obtain ⟨m1, e1⟩ := a.tbls c ps q
    obtain ⟨m2, e2⟩ := b.tbls c _ e1
    exact ⟨m1 ++ m2, by rw [e2, Array.append_assoc]⟩
theorem Un.kept (k : ∀ b u, h.get? b = some u → h'.get? b = some u) : Un fs ex H H h h' :=
  ⟨fun b ob q _ _ _ => k b ob q, fun b ob q _ _ _ => ⟨ob.slots, k b ob q⟩, fun _ _ _ n _ => n, fun b ob q _ => ⟨ob, k b ob q⟩, fun _ _ q => q, fun _ _ _ q => q, fun _ ps q => ⟨#[], by rw [q]; simp⟩⟩
theorem Un.refl : Un fs ex H H h h := Un.kept fun _ _ q => q
theorem Un.laid (k : ∀ b u, h.get? b = some u → h'.get? b = some u) (hp : h.objs.size ≤ a) (hn : H a = none) : Un fs ex H (upd H a o) h h' where
  keep := fun b u q _ _ _ => k b u q
  slot := fun b u q _ _ _ => ⟨u.slots, k b u q⟩
  free := fun b u q n _ => by rw [upd_ne (Nat.ne_of_lt (Nat.lt_of_lt_of_le (Heap.lt_size q) hp))]; exact n
  there := fun b u q _ => ⟨u, k b u q⟩
  tups := fun b xs q => by rw [upd_ne (ne_of_none q hn)]; exact q
  frzs := fun b u xs q => by rw [upd_ne (ne_of_none q hn)]; exact q
  tbls := fun b ps q => ⟨#[], by rw [upd_ne (ne_of_none q hn), q]; simp⟩
theorem Un.write (mu : Mut (H x)) (he : e = x ∨ H e = some (.own x)) (k : ∀ b u, b ≠ e → h.get? b = some u → h'.get? b = some u) (heo : ∃ u, h'.get? e = some u) : Un fs ex H (upd H x o) h h' := by
  have hx : ∀ b, H b = none → b ≠ x := fun b n z => by subst z; rw [n] at mu; exact mu
  have hb : ∀ b, H b = none → b ≠ e := fun b n z => by
    subst z
    rcases he with r | r
    · exact hx b n r
    · rw [n] at r; cases r
  have hm : ∀ b u, H b = some u → ¬ Mut (some u) → b ≠ x := fun b u q nm z => by subst z; rw [q] at mu; exact nm mu
  refine ⟨fun b u q n _ _ => k b u (hb b n) q, fun b u q n _ _ => ⟨u.slots, k b u (hb b n) q⟩, fun b u q n _ => by rw [upd_ne (hx b n)]; exact n, fun b u q _ => ?_,
    fun b xs q => by rw [upd_ne (hm b _ q fun z => z)]; exact q, fun b u xs q => by rw [upd_ne (hm b _ q fun z => z)]; exact q, fun b ps q => ⟨#[], by rw [upd_ne (hm b _ q fun z => z), q]; simp⟩⟩
  by_cases hbe : b = e
  · subst hbe; exact heo
  · exact ⟨u, k b u hbe q⟩
end
/-! ### the heap without what is tracked -/
noncomputable def trk (h : Heap) (H : Hp) : List Addr := (List.range h.objs.size).filter fun a => (H a).isSome
noncomputable def hidT (h : Heap) (H : Hp) : Heap := PySem.W.hideAll h (trk h H)
theorem hidT_size (h : Heap) (H : Hp) : (hidT h H).objs.size = h.objs.size := PySem.W.hideAll_size _ _
theorem hidT_get {h : Heap} {H : Hp} {b : Addr} {o : Obj} (e : h.get? b = some o) (n : H b = none) : (hidT h H).get? b = some o :=
  PySem.W.hideAll_get _ e fun hm => by
    have q : (H b).isSome = true := (List.mem_filter.mp hm).2
    rw [n] at q; simp at q
theorem of_hidT {h : Heap} {H : Hp} {b : Addr} {o : Obj} (e : (hidT h H).get? b = some o) : h.get? b = some o ∧ H b = none := by
  have e' : h.get? b = some o := PySem.W.of_hideAll (trk h H) e
  refine ⟨e', ?_⟩
  cases q : H b with
  | none => rfl
  | some x =>
    have hm : b ∈ trk h H := List.mem_filter.mpr ⟨List.mem_range.mpr (Heap.lt_size e'), by simp [q]⟩
    have z : (hidT h H).get? b = none := PySem.W.hideAll_none (trk h H) hm
    rw [z] at e; cases e

/-! ### OpenK's ledger, filled with every new object but one -/
noncomputable def allNews (g h : Heap) (L : Addr) : List (Addr × Obj) := (List.range h.objs.size).filterMap fun a => if a = L ∨ (g.get? a).isSome = true then none else (h.get? a).map fun o => (a, o)
noncomputable def rest (g h : Heap) (L d : Addr) : List (Addr × Obj) := (allNews g h L).filter fun p => decide (p.1 ≠ d)
end L2
namespace L2
open PySem PySem.Spec PyProof.Rows
structure Mod (K : PySem.W.Frag) (mg : Str → Option Value) (base : Heap) : Prop where
  kin : K.In base
  glob : base.Ns mainGlobals mg
  blt : ∃ mb, base.Ns builtinsNs mb ∧ ∀ x : Str, x ≠ "__name__" → mb x = bootBuiltins x
  nolimit : base.NoLimit

structure Cx where
  prog : Program
  w : World
  K : PySem.W.Frag
  mg : Str → Option Value
  base : Heap
  A : Around
  N : List Str
  s₀ : Shared
  H₀ : Hp
  env : Env
  outer : List Env
  stack : List Env
  ex : List Addr
  fn : Str → Bool
  calm : Bool
  pn : List (Addr × Obj)
  xe : Value → Shared → Prop
noncomputable def frs (l : List Env) : List Addr := l.filterMap (·.frame)
noncomputable abbrev Cx.fs (X : Cx) : List Addr := frs X.outer

noncomputable def Vis (sc : Scope) (x : Str) : Prop := sc.names.lookup x = some .local ∨ sc.names.lookup x = some .cell ∨ sc.names.lookup x = some .free
noncomputable def Loc (sc : Scope) (x : Str) : Prop := sc.names.lookup x = some .local ∨ sc.names.lookup x = some .cell
noncomputable def Look (env : Env) (h : Heap) (m : Str → Option Value) (x : Str) (u : Value) : Prop :=
  (env.kindOf x = some .local ∧ m x = some u) ∨ ((env.kindOf x = some .cell ∨ env.kindOf x = some .free) ∧ ∃ c, env.cells.lookup x = some c ∧ h.IsCell c (some u))

structure Cx.Ok (X : Cx) : Prop where
  mod : Mod X.K X.mg X.base
  kind : X.env.scope.kind = .function
  glob : X.env.globals = mainGlobals
  blt : X.env.builtins = builtinsNs
  above : X.s₀.heap.objs.size ≤ X.env.locals
  inj : ∀ x y c, X.env.cells.lookup x = some c → X.env.cells.lookup y = some c → x = y
  has : ∀ x, (X.env.kindOf x = some .cell ∨ X.env.kindOf x = some .free) → ∃ c, X.env.cells.lookup x = some c
  cab : ∀ x c, X.fn x = true → X.env.cells.lookup x = some c → X.s₀.heap.objs.size ≤ c
  hd : X.calm = true → X.A.handled = none
  frames : X.A.frames = some X.stack
  stk : X.stack = X.outer ∨ (X.stack = X.env :: X.outer ∧ X.env.frame = some X.env.locals)
  exf : ∀ b ∈ X.ex, b ≠ X.env.locals ∧ ∀ x c, X.env.cells.lookup x = some c → c ≠ b
  bs : ∀ b o, X.base.get? b = some o → X.s₀.heap.get? b = some o ∧ X.H₀ b = none
  bsz : X.base.objs.size ≤ X.s₀.heap.objs.size
  noex : ∀ b o, X.base.get? b = some o → b ∉ X.ex
  exfs : ∀ b ∈ X.ex, b ∉ X.fs
  funs : X.s₀.heap.FunFrames X.base X.outer
  frf : ∀ b ∈ X.fs, X.H₀ b = none

structure Inv (X : Cx) (pins : List (Addr × Obj)) (σ : List (Option V)) (H : Hp) (s : Shared) : Prop where
  ok : X.Ok
  os : s.os = X.s₀.os
  bare : AllBare s.gens
  base : Un X.fs X.ex X.H₀ H X.s₀.heap s.heap
  loc : ∃ m, s.heap.Ns X.env.locals m ∧ ∀ (i : Nat) (x : Str) (v : V), X.N[i]? = some x → σ[i]? = some (some v) → Vis X.env.scope x → ∃ u, RelV v u ∧ Look X.env s.heap m x u
  cell : ∀ x c, X.env.cells.lookup x = some c → ∃ v, s.heap.IsCell c v
  free : H X.env.locals = none
  freeC : ∀ x c, X.env.cells.lookup x = some c → H c = none
  pin : ∀ p ∈ X.pn ++ pins, s.heap.get? p.1 = some p.2 ∧ H p.1 = none ∧ p.1 ≠ X.env.locals ∧ p.1 ∉ X.fs ∧ ∀ v, p.2.data ≠ .cell v
  hok : HOk X.prog X.w H s.heap
  len : σ.length = X.N.length

section
variable {X : Cx} {pins : List (Addr × Obj)} {σ : List (Option V)} {H H' : Hp} {s : Shared} {h' : Heap}
theorem Cx.Ok.nofr (ok : X.Ok) {b : Addr} {o : Obj} (e : X.base.get? b = some o) : b ∉ X.fs := fun hb => by
  have := (ok.funs.mem hb).1
  rw [e] at this; cases this
theorem Inv.bs (I : Inv X pins σ H s) : ∀ b o, X.base.get? b = some o → s.heap.get? b = some o ∧ H b = none := fun b o e =>
  ⟨I.base.keep b o (I.ok.bs b o e).1 (I.ok.bs b o e).2 (I.ok.nofr e) (I.ok.noex b o e), I.base.free b o (I.ok.bs b o e).1 (I.ok.bs b o e).2 (I.ok.noex b o e)⟩
theorem Inv.bk (I : Inv X pins σ H s) : ∀ b o, X.base.get? b = some o → s.heap.get? b = some o := fun b o e => (I.bs b o e).1
theorem Inv.mod (I : Inv X pins σ H s) : Mod X.K X.mg X.base := I.ok.mod
theorem Inv.kIn (I : Inv X pins σ H s) : X.K.In s.heap := I.ok.mod.kin.keeps I.bk
theorem Inv.lt (I : Inv X pins σ H s) : X.env.locals < s.heap.objs.size := let ⟨_, hn, _⟩ := I.loc; hn.lt
theorem Inv.sz (I : Inv X pins σ H s) : X.s₀.heap.objs.size ≤ s.heap.objs.size := Nat.le_trans I.ok.above (Nat.le_of_lt I.lt)
theorem Inv.nofs (I : Inv X pins σ H s) {a : Addr} (h : s.heap.objs.size ≤ a) : a ∉ X.fs := fun hb => by
  obtain ⟨_, o, ho, _⟩ := I.ok.funs.mem hb
  exact absurd (Nat.lt_of_lt_of_le (Heap.lt_size ho) (Nat.le_trans I.sz h)) (Nat.lt_irrefl _)
theorem Inv.cne (I : Inv X pins σ H s) : ∀ x c, X.env.cells.lookup x = some c → c ≠ X.env.locals := fun x c e z => by
  obtain ⟨v, o, ho, hd⟩ := I.cell x c e
  obtain ⟨m, ⟨o', es, ep, ho', hd', _⟩, _⟩ := I.loc
  rw [z, ho'] at ho; cases ho; rw [hd'] at hd; cases hd
theorem Inv.funs (I : Inv X pins σ H s) : s.heap.FunFrames X.base X.outer := by
  have all : ∀ (l : List Env), (∀ b ∈ frs l, b ∈ X.fs) → X.s₀.heap.FunFrames X.base l → s.heap.FunFrames X.base l := by
    intro l
    induction l with
    | nil => intro _ _; trivial
    | cons env r ih =>
      intro hs hl
      obtain ⟨hk, ⟨L, o, hf, hn, ho, hd⟩, hr⟩ := hl
      have hL : L ∈ X.fs := hs L (by unfold frs; rw [List.filterMap_cons, hf]; exact List.mem_cons_self)
      obtain ⟨sl, e⟩ := I.base.slot L o ho (I.ok.frf L hL) hL fun z => I.ok.exfs L z hL
      exact ⟨hk, ⟨L, _, hf, hn, e, hd⟩, ih (fun b hb => hs b (by unfold frs; rw [List.filterMap_cons, hf]; exact List.mem_cons_of_mem _ hb)) hr⟩
  exact all X.outer (fun _ hb => hb) I.ok.funs

theorem Inv.stack (I : Inv X pins σ H s) : s.heap.FunFrames X.base X.stack := by
  rcases I.ok.stk with e | ⟨e, hf⟩
  · rw [e]; exact I.funs
  · rw [e]
    obtain ⟨m, hn, _⟩ := I.loc
    refine .cons (by rw [I.ok.kind]; decide) hf hn ?_ I.funs
    exact Heap.get?_none_of_le (Nat.le_trans I.ok.bsz I.ok.above)
theorem Inv.stkSub (I : Inv X pins σ H s) : ∀ b ∈ frs X.stack, b ∈ X.env.locals :: X.fs := fun b hb => by
  rcases I.ok.stk with e | ⟨e, hf⟩
  · rw [e] at hb; exact List.mem_cons_of_mem _ hb
  · rw [e] at hb
    unfold frs at hb
    rw [List.filterMap_cons, hf] at hb
    exact hb
theorem Inv.stkFree (I : Inv X pins σ H s) : ∀ b ∈ frs X.stack, H b = none := fun b hb => by
  rcases List.mem_cons.mp (I.stkSub b hb) with e | hb
  · rw [e]; exact I.free
  · obtain ⟨_, o, ho, _⟩ := I.ok.funs.mem hb
    exact I.base.free b o ho (I.ok.frf b hb) fun z => I.ok.exfs b z hb

theorem Inv.step {g' : Array GenState} {t' : Nat} {d' : Drawn} {ch : List Addr} (I : Inv X pins σ H s)
    (hch : ∀ b ∈ ch, (b ∈ X.ex ∨ X.s₀.heap.get? b = none) ∧ b ≠ X.env.locals ∧ (∀ x c, X.env.cells.lookup x = some c → c ≠ b) ∧ ∀ p ∈ X.pn ++ pins, p.1 ≠ b)
    (keep : ∀ b o, b ≠ X.env.locals → b ∉ X.fs → b ∉ ch → s.heap.get? b = some o → H b = none → h'.get? b = some o)
    (slot : ∀ b o, b ≠ X.env.locals → b ∈ X.fs → b ∉ ch → s.heap.get? b = some o → H b = none → ∃ sl, h'.get? b = some { o with slots := sl }) (free : ∀ b o, b ∉ ch → s.heap.get? b = some o → H b = none → H' b = none)
    (there : ∀ b o, b ∉ ch → s.heap.get? b = some o → ∃ o', h'.get? b = some o')
    (tups : ∀ b xs, H b = some (.tup xs) → H' b = some (.tup xs)) (frzs : ∀ b o u, H b = some (.frz o u) → H' b = some (.frz o u)) (tbls : ∀ b ps, H b = some (.tbl ps) → ∃ more, H' b = some (.tbl (ps ++ more)))
    (ns : ∀ m, s.heap.Ns X.env.locals m → h'.Ns X.env.locals m) (hok : HOk X.prog X.w H' h') (hg : AllBare g') :
    Inv X pins σ H' { s with heap := h', gens := g', drawn := d', toks := t' } := by
  have neL : ∀ b o, X.s₀.heap.get? b = some o → b ≠ X.env.locals := fun b o e => Nat.ne_of_lt (Nat.lt_of_lt_of_le (Heap.lt_size e) I.ok.above)
  have neC : ∀ b o, X.s₀.heap.get? b = some o → b ∉ X.ex → b ∉ ch := fun b o e hx hb => by
    rcases (hch b hb).1 with z | z
    · exact hx z
    · rw [z] at e; cases e
  have cellK : ∀ x c, X.env.cells.lookup x = some c → ∀ v, s.heap.IsCell c v → h'.IsCell c v := fun x c e v ⟨o, ho, hd⟩ => by
    have nch : c ∉ ch := fun z => (hch c z).2.2.1 x c e rfl
    by_cases hc : c ∈ X.fs
    · obtain ⟨sl, q⟩ := slot c o (I.cne x c e) hc nch ho (I.freeC x c e)
      exact ⟨_, q, hd⟩
    · exact ⟨o, keep c o (I.cne x c e) hc nch ho (I.freeC x c e), hd⟩
  refine ⟨I.ok, I.os, hg, ⟨fun b o e n hb hx => ?_, fun b o e n hb hx => ?_, fun b o e n hx => ?_, fun b o e hx => ?_, fun b xs e => tups b xs (I.base.tups b xs e), fun b o xs e => frzs b o xs (I.base.frzs b o xs e), fun b ps e => ?_⟩, ?_, fun x c e => ?_, ?_, fun x c e => ?_, fun p hp => ?_, hok, I.len⟩
  · exact keep b o (neL b o e) hb (neC b o e hx) (I.base.keep b o e n hb hx) (I.base.free b o e n hx)
  · obtain ⟨sl, e1⟩ := I.base.slot b o e n hb hx
    obtain ⟨sl', e2⟩ := slot b _ (neL b o e) hb (neC b o e hx) e1 (I.base.free b o e n hx)
    exact ⟨sl', e2⟩
  · obtain ⟨o', e1⟩ := I.base.there b o e hx
    exact free b o' (neC b o e hx) e1 (I.base.free b o e n hx)
  · obtain ⟨o', e1⟩ := I.base.there b o e hx
    exact there b o' (neC b o e hx) e1
  · obtain ⟨m1, e1⟩ := I.base.tbls b ps e
    obtain ⟨m2, e2⟩ := tbls b _ e1
    exact ⟨m1 ++ m2, by rw [e2, Array.append_assoc]⟩
  · obtain ⟨m, hn, hl⟩ := I.loc
    refine ⟨m, ns m hn, fun i x v e1 e2 e3 => ?_⟩
    obtain ⟨u, r, l⟩ := hl i x v e1 e2 e3
    refine ⟨u, r, ?_⟩
    rcases l with l | ⟨k, c, e, z⟩
    · exact .inl l
    · exact .inr ⟨k, c, e, cellK x c e _ z⟩
  · obtain ⟨v, z⟩ := I.cell x c e
    exact ⟨v, cellK x c e v z⟩
  · obtain ⟨m, ⟨o, _, _, ho, _⟩, _⟩ := I.loc
    exact free _ o (fun z => (hch _ z).2.1 rfl) ho I.free
  · obtain ⟨v, o, ho, hd⟩ := I.cell x c e
    exact free c o (fun z => (hch c z).2.2.1 x c e rfl) ho (I.freeC x c e)
  · obtain ⟨e, n, ne, nf, d⟩ := I.pin p hp
    have nch : p.1 ∉ ch := fun z => (hch p.1 z).2.2.2 p hp rfl
    exact ⟨keep p.1 p.2 ne nf nch e n, free p.1 p.2 nch e n, ne, nf, d⟩
theorem Inv.un {t' : Nat} (I : Inv X pins σ H s) (u : Un X.fs [] H H' s.heap h') (hok : HOk X.prog X.w H' h') : Inv X pins σ H' { s with heap := h', toks := t' } := by
  obtain ⟨m, ⟨o, es, ep, ho, r⟩, _⟩ := id I.loc
  obtain ⟨sl, hL⟩ := u.any ho I.free (by simp)
  exact I.step (g' := s.gens) (d' := s.drawn) (ch := []) (fun _ z => nomatch z) (fun b o _ hb _ e n => u.keep b o e n hb (by simp)) (fun b o _ hb _ e n => u.slot b o e n hb (by simp)) (fun b o _ e n => u.free b o e n (by simp)) (fun b o _ e => u.there b o e (by simp)) u.tups u.frzs u.tbls (fun m' hm => by
    obtain ⟨o', es', ep', ho', r'⟩ := hm
    rw [ho] at ho'; cases ho'
    exact ⟨_, es', ep', hL, r'⟩) hok I.bare
theorem Inv.call {g' : Array GenState} {t' : Nat} {d' : Drawn} {ch : List Addr} (I : Inv X pins σ H s) (u : Un (frs X.stack) ch H H' s.heap h') (hok : HOk X.prog X.w H' h') (hg : AllBare g')
    (hch : ∀ b ∈ ch, (b ∈ X.ex ∨ X.s₀.heap.objs.size ≤ b) ∧ b ≠ X.env.locals ∧ (∀ x c, X.env.cells.lookup x = some c → c ≠ b) ∧ ∀ p ∈ X.pn ++ pins, p.1 ≠ b) :
    Inv X pins σ H' { s with heap := h', gens := g', drawn := d', toks := t' } := by
  obtain ⟨m, ⟨o, es, ep, ho, r⟩, _⟩ := id I.loc
  obtain ⟨sl, hL⟩ := u.any ho I.free fun z => (hch _ z).2.1 rfl
  exact I.step (ch := ch) (fun b hb => ⟨(hch b hb).1.imp_right fun z => Heap.get?_none_of_le z, (hch b hb).2⟩) (fun b o hL hb hc e n => u.keep b o e n (fun z => (List.mem_cons.mp (I.stkSub b z)).elim hL hb) hc) (fun b o _ _ hc e n => u.any e n hc) (fun b o hc e n => u.free b o e n hc) (fun b o hc e => u.there b o e hc) u.tups u.frzs u.tbls (fun m' hm => by
    obtain ⟨o', es', ep', ho', r'⟩ := hm
    rw [ho] at ho'; cases ho'
    exact ⟨_, es', ep', hL, r'⟩) hok hg
theorem Inv.turned {t' : Nat} {it : Addr} (I : Inv X pins σ H s) (k : ∀ b o, b ≠ it → s.heap.get? b = some o → h'.get? b = some o) (hn : H it = none) (hL : it ≠ X.env.locals)
    (h1 : it ∈ X.ex ∨ X.s₀.heap.objs.size ≤ it) (h2 : ∀ x c, X.env.cells.lookup x = some c → c ≠ it) (h3 : ∀ p ∈ X.pn ++ pins, p.1 ≠ it) : Inv X pins σ H { s with heap := h', toks := t' } := by
  have nit : ∀ b u, H b = some u → b ≠ it := fun b u e z => by rw [z, hn] at e; cases e
  refine I.step (g' := s.gens) (d' := s.drawn) (ch := [it]) (fun b hb => ?_) (fun b o _ _ hc e _ => k b o (fun z => hc (by simp [z])) e) (fun b o _ _ hc e _ => ⟨o.slots, k b o (fun z => hc (by simp [z])) e⟩) (fun _ _ _ _ n => n)
    (fun b o hc e => ⟨o, k b o (fun z => hc (by simp [z])) e⟩) (fun _ _ e => e) (fun _ _ _ e => e) (fun b ps e => ⟨#[], by rw [e]; simp⟩) (fun m hm => ?_) (fun b u e => ?_) I.bare
  · have e : b = it := by simpa using hb
    subst e
    exact ⟨h1.imp_right fun z => Heap.get?_none_of_le z, hL, h2, h3⟩
  · obtain ⟨o, es, ep, ho, r⟩ := hm
    exact ⟨o, es, ep, k _ o (Ne.symm hL) ho, r⟩
  · refine (I.hok b u e).stay (fun c v hc q => k c v ?_ q) (fun _ q => q) fun _ _ q => q
    rcases hc with z | z
    · rw [z]; exact nit b u e
    · exact nit c _ z
theorem Inv.tok (I : Inv X pins σ H s) (t : Nat) : Inv X pins σ H { s with toks := t } := I.un (h' := s.heap) (t' := t) Un.refl I.hok
theorem Inv.kept {t' : Nat} (I : Inv X pins σ H s) (k : ∀ b u, s.heap.get? b = some u → h'.get? b = some u) : Inv X pins σ H { s with heap := h', toks := t' } := I.un (Un.kept k) (I.hok.kept k)
theorem Inv.laid {a : Addr} {o : HO} {t' : Nat} (I : Inv X pins σ H s) (k : ∀ b u, s.heap.get? b = some u → h'.get? b = some u) (hp : s.heap.objs.size ≤ a) (new : ObjOk X.prog X.w (upd H a o) h' a o) :
    Inv X pins σ (upd H a o) { s with heap := h', toks := t' } := I.un (Un.laid k hp (I.hok.fresh hp)) (I.hok.laid k hp new)
theorem Inv.write {x e : Addr} {o : HO} {t' : Nat} (I : Inv X pins σ H s) (mu : Mut (H x)) (he : e = x ∨ H e = some (.own x)) (k : ∀ b u, b ≠ e → s.heap.get? b = some u → h'.get? b = some u) (heo : ∃ u, h'.get? e = some u)
    (new : ObjOk X.prog X.w (upd H x o) h' x o) : Inv X pins σ (upd H x o) { s with heap := h', toks := t' } := I.un (Un.write mu he k heo) (I.hok.write mu he k heo new)
theorem Inv.pins_of {pins' : List (Addr × Obj)} (I : Inv X pins σ H s) (h : ∀ p ∈ pins', s.heap.get? p.1 = some p.2 ∧ H p.1 = none ∧ p.1 ≠ X.env.locals ∧ p.1 ∉ X.fs ∧ ∀ v, p.2.data ≠ .cell v) : Inv X pins' σ H s :=
  ⟨I.ok, I.os, I.bare, I.base, I.loc, I.cell, I.free, I.freeC, fun p hp => (List.mem_append.mp hp).elim (fun z => I.pin p (List.mem_append_left _ z)) (h p), I.hok, I.len⟩

theorem nodup_ix {N : List Str} (hN : N.Nodup) {i j : Nat} {x : Str} (a : N[i]? = some x) (b : N[j]? = some x) : i = j := by
  obtain ⟨h1, e1⟩ := List.getElem?_eq_some_iff.mp a
  obtain ⟨h2, e2⟩ := List.getElem?_eq_some_iff.mp b
  exact (List.getElem_inj hN).mp (e1.trans e2.symm)

theorem store_ok2 {M : Model} {A : Around} {E : Value → Shared → Prop} {i : Nat} {x : Str} {v : V} {u : Value} {Q : Unit → Shared → Prop} (I : Inv X pins σ H s) (hN : X.N.Nodup) (hi : X.N[i]? = some x) (hx : Loc X.env.scope x) (r : RelV v u)
    (h : ∀ s', Inv X pins (σ.set i (some v)) H s' → (∃ a, Heap.SameBut a s.heap s'.heap ∧ (a = X.env.locals ∨ X.env.cells.lookup x = some a)) → Q () s') (hf : X.fn x = true ∨ X.env.scope.names.lookup x = some .local := by first | exact .inl rfl | exact .inr rfl | assumption) : wpAny M A (storeName X.env x u) Q E s := by
  obtain ⟨m, hn, hl⟩ := id I.loc
  have hcls : (X.env.scope.kind == .class || (X.env.scope.kind == .module && X.env.locals != X.env.globals)) = false := by rw [I.ok.kind]; rfl
  have hiσ : i < σ.length := by rw [I.len]; exact (List.getElem?_eq_some_iff.mp hi).1
  have cne := I.cne
  have tracked : ∀ {a : Addr} {h' : Heap}, (∃ o, s.heap.get? a = some o ∧ H a = none) → Heap.SameBut a s.heap h' → HOk X.prog X.w H h' := fun {a h'} ha hs b ob e => by
    obtain ⟨_, _, hfree⟩ := ha
    refine (I.hok b ob e).stay (fun c w' hc q => (hs.2 c ?_).trans q) (fun _ q => q) fun _ _ q => q
    rintro rfl
    rcases hc with rfl | hc
    · rw [hfree] at e; cases e
    · rw [hfree] at hc; cases hc
  rcases hx with hk | hk
  · refine wpAny_storeName_local hk hn (fun h' hn' hs => ?_) hcls
    obtain ⟨oL, _, _, hoL, _⟩ := id hn
    refine h _ ⟨I.ok, I.os, I.bare, ⟨fun b o e n hb hx => ?_, fun b o e n hb hx => ?_, I.base.free, fun b o e hx => ?_, I.base.tups, I.base.frzs, I.base.tbls⟩, ⟨_, hn', fun j y v' e1 e2 e3 => ?_⟩, fun y c e => ?_, I.free, I.freeC, fun p hp => ?_, tracked ⟨oL, hoL, I.free⟩ hs, by simpa using I.len⟩ ⟨_, hs, .inl rfl⟩
    · exact (hs.2 b (Nat.ne_of_lt (Nat.lt_of_lt_of_le (Heap.lt_size e) I.ok.above))).trans (I.base.keep b o e n hb hx)
    · obtain ⟨sl, e1⟩ := I.base.slot b o e n hb hx
      exact ⟨sl, (hs.2 b (Nat.ne_of_lt (Nat.lt_of_lt_of_le (Heap.lt_size e) I.ok.above))).trans e1⟩
    · obtain ⟨o', e1⟩ := I.base.there b o e hx
      exact ⟨o', (hs.2 b (Nat.ne_of_lt (Nat.lt_of_lt_of_le (Heap.lt_size e) I.ok.above))).trans e1⟩
    · by_cases hj : j = i
      · subst hj
        rw [hi] at e1; cases e1
        rw [List.getElem?_set_self hiσ] at e2
        cases e2
        exact ⟨u, r, .inl ⟨hk, by simp⟩⟩
      · rw [List.getElem?_set_ne (Ne.symm hj)] at e2
        obtain ⟨u', r', q⟩ := hl j y v' e1 e2 e3
        refine ⟨u', r', ?_⟩
        rcases q with ⟨k, e⟩ | ⟨k, c, e, z⟩
        · refine .inl ⟨k, ?_⟩
          have : y ≠ x := fun e => hj (nodup_ix hN e1 (e ▸ hi))
          simp [this, e]
        · exact .inr ⟨k, c, e, z.sameBut hs (cne y c e)⟩
    · obtain ⟨w', z⟩ := I.cell y c e
      exact ⟨w', z.sameBut hs (cne y c e)⟩
    · obtain ⟨e, n, ne, nf, d⟩ := I.pin p hp
      exact ⟨(hs.2 p.1 ne).trans e, n, ne, nf, d⟩
  · have hfn : X.fn x = true := by
      rcases hf with z | z
      · exact z
      · rw [z] at hk; cases hk
    obtain ⟨c, hc⟩ := I.ok.has x (.inl hk)
    obtain ⟨w', z⟩ := I.cell x c hc
    refine wpAny_storeName_cell I.ok.kind hk hc z (fun h' hc' hs => ?_)
    obtain ⟨oc, hoc, hocd⟩ := id z
    refine h { s with heap := h' } ⟨I.ok, I.os, I.bare, ⟨fun b o e n hb hx => ?_, fun b o e n hb hx => ?_, I.base.free, fun b o e hx => ?_, I.base.tups, I.base.frzs, I.base.tbls⟩, ⟨m, hn.sameBut hs (Ne.symm (cne x c hc)), fun j y v' e1 e2 e3 => ?_⟩, fun y c' e => ?_, I.free, I.freeC, fun p hp => ?_, tracked ⟨oc, hoc, I.freeC x c hc⟩ hs, by simpa using I.len⟩ ⟨c, hs, .inr hc⟩
    · exact (hs.2 b (Nat.ne_of_lt (Nat.lt_of_lt_of_le (Heap.lt_size e) (I.ok.cab x c hfn hc)))).trans (I.base.keep b o e n hb hx)
    · obtain ⟨sl, e1⟩ := I.base.slot b o e n hb hx
      exact ⟨sl, (hs.2 b (Nat.ne_of_lt (Nat.lt_of_lt_of_le (Heap.lt_size e) (I.ok.cab x c hfn hc)))).trans e1⟩
    · obtain ⟨o', e1⟩ := I.base.there b o e hx
      exact ⟨o', (hs.2 b (Nat.ne_of_lt (Nat.lt_of_lt_of_le (Heap.lt_size e) (I.ok.cab x c hfn hc)))).trans e1⟩
    · by_cases hj : j = i
      · subst hj
        rw [hi] at e1; cases e1
        rw [List.getElem?_set_self hiσ] at e2
        cases e2
        exact ⟨u, r, .inr ⟨.inl hk, c, hc, hc'⟩⟩
      · rw [List.getElem?_set_ne (Ne.symm hj)] at e2
        obtain ⟨u', r', q⟩ := hl j y v' e1 e2 e3
        refine ⟨u', r', ?_⟩
        rcases q with q | ⟨k, c', e, z'⟩
        · exact .inl q
        · refine .inr ⟨k, c', e, z'.sameBut hs ?_⟩
          rintro rfl
          exact hj (nodup_ix hN e1 (I.ok.inj _ _ _ e hc ▸ hi))
    · by_cases hcc : c' = c
      · subst hcc; exact ⟨_, hc'⟩
      · obtain ⟨w2, z2⟩ := I.cell y c' e
        exact ⟨w2, z2.sameBut hs hcc⟩
    · obtain ⟨e, n, ne, nf, d⟩ := I.pin p hp
      refine ⟨(hs.2 p.1 ?_).trans e, n, ne, nf, d⟩
      intro q
      rw [q, hoc] at e
      have q' : oc = p.2 := Option.some.inj e
      exact d w' (by rw [← q']; exact hocd)
theorem store_ok {M : Model} {A : Around} {E : Value → Shared → Prop} {i : Nat} {x : Str} {v : V} {u : Value} {Q : Unit → Shared → Prop} (I : Inv X pins σ H s) (hN : X.N.Nodup) (hi : X.N[i]? = some x) (hx : Loc X.env.scope x) (r : RelV v u)
    (h : ∀ s', Inv X pins (σ.set i (some v)) H s' → Q () s') (hf : X.fn x = true ∨ X.env.scope.names.lookup x = some .local := by first | exact .inl rfl | exact .inr rfl | assumption) : wpAny M A (storeName X.env x u) Q E s :=
  store_ok2 I hN hi hx r (fun s' I' _ => h s' I') hf
theorem Inv.call' {s' : Shared} {ch : List Addr} (I : Inv X pins σ H s) (ho : s'.os = s.os) (u : Un (frs X.stack) ch H H' s.heap s'.heap) (hok : HOk X.prog X.w H' s'.heap) (hg : AllBare s'.gens)
    (hch : ∀ b ∈ ch, (b ∈ X.ex ∨ X.s₀.heap.objs.size ≤ b) ∧ b ≠ X.env.locals ∧ (∀ x c, X.env.cells.lookup x = some c → c ≠ b) ∧ ∀ p ∈ X.pn ++ pins, p.1 ≠ b) : Inv X pins σ H' s' := by
  obtain ⟨h', g', d', t', o'⟩ := s'
  have e : o' = s.os := ho
  subst e
  exact I.call (g' := g') (t' := t') (d' := d') u hok hg hch
end
/-! ### the judgements -/
noncomputable abbrev XK := Value → Option Addr → Hp → Prop
noncomputable abbrev St := List (Option V)
noncomputable abbrev VK := V → Hp → Prop
noncomputable abbrev TE := St → Hp → VK → Prop
noncomputable abbrev TT := St → Hp → (Bool → Hp → Prop) → Prop
noncomputable abbrev TA := St → Hp → (List V → Hp → Prop) → Prop
structure Ends where
  nx : St → Hp → Prop
  rt : VK
  bk : St → Hp → Prop := fun _ _ => False
  ct : St → Hp → Prop := fun _ _ => False
noncomputable abbrev TS := Ends → St → Hp → Prop

noncomputable def EP (X : Cx) (pins : List (Addr × Obj)) (σ : St) (Q : VK) (u : Value) (s' : Shared) : Prop := ∃ v H', Inv X pins σ H' s' ∧ RelV v u ∧ Q v H'
noncomputable def TP (X : Cx) (pins : List (Addr × Obj)) (σ : St) (Q : Bool → Hp → Prop) (b : Bool) (s' : Shared) : Prop := ∃ H', Inv X pins σ H' s' ∧ Q b H'
noncomputable def AP (X : Cx) (pins : List (Addr × Obj)) (σ : St) (Q : List V → Hp → Prop) (us : List Value) (s' : Shared) : Prop := ∃ vs H', Inv X pins σ H' s' ∧ Vals vs us ∧ Q vs H'
noncomputable def SP (X : Cx) (pins : List (Addr × Obj)) (D : Ends) (f : Flow) (s' : Shared) : Prop :=
  match f with
  | .next => ∃ σ' H', Inv X pins σ' H' s' ∧ D.nx σ' H'
  | .brk => ∃ σ' H', Inv X pins σ' H' s' ∧ D.bk σ' H'
  | .cont => ∃ σ' H', Inv X pins σ' H' s' ∧ D.ct σ' H'
  | .ret u => ∃ v σ' H', Inv X pins σ' H' s' ∧ RelV v u ∧ D.rt v H'

noncomputable def PE (X : Cx) (e : Expr) (t : TE) : Prop :=
  ∀ (pins : List (Addr × Obj)) (s : Shared) (σ : St) (H : Hp) (Q : VK), Inv X pins σ H s → t σ H Q → wpAny (model X.prog X.w) X.A (eval e X.env) (EP X pins σ Q) X.xe s
noncomputable def PT (X : Cx) (e : Expr) (t : TT) : Prop :=
  ∀ (pins : List (Addr × Obj)) (s : Shared) (σ : St) (H : Hp) (Q : Bool → Hp → Prop), Inv X pins σ H s → t σ H Q → wpAny (model X.prog X.w) X.A (isTrue e X.env (eval e X.env)) (TP X pins σ Q) X.xe s
noncomputable def PW (X : Cx) (e : Expr) (t : TT) : Prop :=
  ∀ (whole : Sem Value) (pins : List (Addr × Obj)) (s : Shared) (σ : St) (H : Hp) (Q : Bool → Hp → Prop), Inv X pins σ H s → t σ H Q → wpAny (model X.prog X.w) X.A (isTrue e X.env whole) (TP X pins σ Q) X.xe s
theorem PW.pt {X : Cx} {e : Expr} {t : TT} (h : PW X e t) : PT X e t := h _
noncomputable def PA (X : Cx) (es : List Expr) (t : TA) : Prop :=
  ∀ (pos : Pos) (pins : List (Addr × Obj)) (s : Shared) (σ : St) (H : Hp) (Q : List V → Hp → Prop), Inv X pins σ H s → t σ H Q → wpAny (model X.prog X.w) X.A (spliced (backTo pos (starEach es X.env))) (AP X pins σ Q) X.xe s
noncomputable def PS (X : Cx) (st : Stmt) (t : TS) : Prop :=
  ∀ (pins : List (Addr × Obj)) (s : Shared) (σ : St) (H : Hp) (D : Ends), Inv X pins σ H s → t D σ H → wpAny (model X.prog X.w) X.A (exec st X.env) (SP X pins D) X.xe s
noncomputable def PSs (X : Cx) (st : List Stmt) (t : TS) : Prop :=
  ∀ (pins : List (Addr × Obj)) (s : Shared) (σ : St) (H : Hp) (D : Ends), Inv X pins σ H s → t D σ H → wpAny (model X.prog X.w) X.A (execs st X.env) (SP X pins D) X.xe s
theorem thn {α : Type} {t : Sem α} {Q Q' : α → Shared → Prop} {M : Model} {A : Around} {E : Value → Shared → Prop} {s : Shared} (h : wpAny M A t Q E s) (hQ : ∀ a s, Q a s → Q' a s) : wpAny M A t Q' E s := wpAny_mono h hQ fun _ _ x => x
end L2
namespace L2
open PySem PySem.Spec PyProof.Rows
section
variable {X : Cx}
theorem bin {a b : Expr} {ta tb : TE} (ha : PE X a ta) (hb : PE X b tb) {pins : List (Addr × Obj)} {s : Shared} {σ : St} {H : Hp} {R : V → V → Hp → Prop} (I : Inv X pins σ H s) (h : ta σ H fun x H1 => tb σ H1 fun y H2 => R x y H2)
    {α : Type} {Q : α → Shared → Prop} {f : Value → Value → Sem α}
    (hf : ∀ v u s2 x y H2, Inv X pins σ H2 s2 → RelV x v → RelV y u → R x y H2 → wpAny (model X.prog X.w) X.A (f v u) Q X.xe s2) :
    wpAny (model X.prog X.w) X.A (eval a X.env) (fun v s₁ => wpAny (model X.prog X.w) X.A (eval b X.env) (fun u s₂ => wpAny (model X.prog X.w) X.A (f v u) Q X.xe s₂) X.xe s₁) X.xe s := by
  refine thn (ha pins s σ H _ I h) fun v s1 ⟨x, H1, I1, r1, q1⟩ => ?_
  refine thn (hb pins s1 σ H1 _ I1 q1) fun u s2 ⟨y, H2, I2, r2, q2⟩ => ?_
  exact hf v u s2 x y H2 I2 r1 r2 q2

/-! ### names and constants -/
noncomputable def tVar (i : Nat) : TE := fun σ H Q => ∃ v, σ[i]? = some (some v) ∧ Q v H
noncomputable def tC (v : V) : TE := fun _ H Q => Q v H
theorem pe_var {i : Nat} {x : Str} {pos : Pos} (hN : X.N[i]? = some x) (hv : Vis X.env.scope x) (hd : (x == ("__debug__" : Str)) = false := by decide) (hcd : (x == ("__classdict__" : Str)) = false := by decide) : PE X (.Name x pos) (tVar i) := by
  intro pins s σ H Q I h
  obtain ⟨v, e, h⟩ := h
  obtain ⟨m, hn, hl⟩ := I.loc
  obtain ⟨u, r, l⟩ := hl i x v hN e hv
  have fin : EP X pins σ Q u s := ⟨v, H, I, r, h⟩
  rcases l with ⟨hk, hm⟩ | ⟨hk, c, hc, hcell⟩
  · exact wpAny_Name (wpAny_loadName_local I.ok.kind hk hn hm fin) hd
  · rcases hk with hk | hk
    · exact wpAny_Name (wpAny_loadName_cell I.ok.kind hk hc hcell fin) hd
    · exact wpAny_Name (wpAny_loadName_free I.ok.kind hk hc hcell fin hcd) hd
theorem pe_int {i j pos} : PE X (.Constant (.int i) j pos) (tC (.int i)) := fun _ _ _ H _ I h => wpAny_Constant_int ⟨.int i, H, I.tok _, ⟨_, rfl⟩, h⟩
theorem pe_bl {b j pos} : PE X (.Constant (.bool b) j pos) (tC (.bl b)) := fun _ _ _ H _ I h => Constant_bool ⟨.bl b, H, I, rfl, h⟩
theorem pe_non {j pos} : PE X (.Constant .none j pos) (tC .non) := fun _ _ _ H _ I h => Constant_none ⟨.non, H, I, rfl, h⟩
theorem pe_str {x j pos} : PE X (.Constant (.str x) j pos) (tC (.str x)) := fun _ _ _ H _ I h => Calls.Constant_str ⟨.str x, H, I.tok _, ⟨_, rfl⟩, h⟩

noncomputable def Gl (X : Cx) (x : Str) : Prop := X.env.kindOf x = some .globalImplicit
theorem ld_glob {E : Value → Shared → Prop} {pins : List (Addr × Obj)} {s : Shared} {σ : St} {H : Hp} {x : Str} {u : Value} {pos : Pos} {Q : Value → Shared → Prop} (I : Inv X pins σ H s) (hg : Gl X x) (hm : X.mg x = some u) (h : Q u s)
    (hd : (x == ("__debug__" : Str)) = false := by decide) : wpAny (model X.prog X.w) X.A (eval (.Name x pos) X.env) Q E s :=
  Calls.Name_function_global I.ok.kind hg (Calls.loadGlobal_global (by rw [I.ok.glob]; exact I.mod.glob.keeps I.bk) hm h) hd
theorem ld_blt {E : Value → Shared → Prop} {pins : List (Addr × Obj)} {s : Shared} {σ : St} {H : Hp} {x : Str} {u : Value} {pos : Pos} {Q : Value → Shared → Prop} (I : Inv X pins σ H s) (hg : Gl X x) (hm : X.mg x = none) (hv : bootBuiltins x = some u) (h : Q u s)
    (hn : x ≠ "__name__" := by decide) (hd : (x == ("__debug__" : Str)) = false := by decide) : wpAny (model X.prog X.w) X.A (eval (.Name x pos) X.env) Q E s := by
  obtain ⟨mb, h1, h2⟩ := I.mod.blt
  exact Calls.Name_function_global I.ok.kind hg (Calls.loadGlobal_builtin (by rw [I.ok.glob]; exact I.mod.glob.keeps I.bk) hm (by rw [I.ok.blt]; exact h1.keeps I.bk) ((h2 x hn).trans hv) h) hd
theorem pe_glob {x : Str} {v : V} {u : Value} {pos : Pos} (hg : Gl X x) (hm : X.mg x = some u) (r : RelV v u) (hd : (x == ("__debug__" : Str)) = false := by decide) : PE X (.Name x pos) (tC v) :=
  fun _ _ _ H _ I h => ld_glob I hg hm ⟨v, H, I, r, h⟩ hd
theorem pe_bltn {x : Str} {v : V} {u : Value} {pos : Pos} (hg : Gl X x) (hm : X.mg x = none) (hv : bootBuiltins x = some u) (r : RelV v u) (hn : x ≠ "__name__" := by decide) (hd : (x == ("__debug__" : Str)) = false := by decide) : PE X (.Name x pos) (tC v) :=
  fun _ _ _ H _ I h => ld_blt I hg hm hv ⟨v, H, I, r, h⟩ hn hd

/-! ### arithmetic -/
variable {a b : Expr} {ta tb : TE} {pos : Pos}
/-! ### comparisons -/
noncomputable def PC (X : Cx) (op : CmpOp) (a b : Expr) (t : TE) : Prop :=
  ∀ (pins : List (Addr × Obj)) (s : Shared) (σ : St) (H : Hp) (Q : VK), Inv X pins σ H s → t σ H Q →
    wpAny (model X.prog X.w) X.A (eval a X.env) (fun v s₁ => wpAny (model X.prog X.w) X.A (eval b X.env) (fun u s₂ => wpAny (model X.prog X.w) X.A (compareOp op v u) (EP X pins σ Q) X.xe s₂) X.xe s₁) X.xe s
theorem nobehind (b : Expr) {op : CmpOp} (h : op ≠ .In) (h2 : op ≠ .NotIn) : behindInMarks op b = false := by
  have e1 : (op == CmpOp.In) = false := by cases op <;> first | rfl | exact absurd rfl h
  have e2 : (op == CmpOp.NotIn) = false := by cases op <;> first | rfl | exact absurd rfl h2
  cases b <;> simp [behindInMarks, e1, e2]
noncomputable def tNotN (ta : TE) : TE := fun σ H Q => ta σ H fun x H1 => Q (.bl (!decide (x = .non))) H1
theorem RelV.none_iff {x : V} {v : Value} (r : RelV x v) : (v == Value.none) = decide (x = .non) := by
  cases x with
  | non => cases r; rfl
  | bl _ => cases r; rfl
  | int _ => obtain ⟨t, rfl⟩ := r; rfl
  | str _ => obtain ⟨t, rfl⟩ := r; rfl
  | byt _ => obtain ⟨t, rfl⟩ := r; rfl
  | flt _ => obtain ⟨t, rfl⟩ := r; rfl
  | ref _ => cases r; rfl
  | ty _ => cases r; rfl
theorem pc_notN {j pos'} (ha : PE X a ta) : PC X .IsNot a (.Constant .none j pos') (tNotN ta) := by
  intro pins s σ H Q I h
  refine thn (ha pins s σ H _ I h) fun v s1 ⟨x, H1, I1, r1, q1⟩ => ?_
  exact Constant_none (isnot_none_gen ⟨.bl _, H1, I1, by rw [r1.none_iff]; rfl, q1⟩)
noncomputable def tB (t : TE) : TT := fun σ H Q => t σ H fun x H1 => ∃ c, x = .bl c ∧ Q c H1
theorem pt_cmp {op : CmpOp} {t : TE} (h : PC X op a b t) (h1 : behindInMarks op b = false := by first | exact nobehind _ (by decide) (by decide) | rfl) : PT X (.Compare a [op] [b] pos) (tB t) := by
  intro pins s σ H Q I hw
  refine wpAny_isTrue_Compare1 (thn (h pins s σ H _ I hw) fun v s1 h1 => thn h1 fun u s2 h2 => thn h2 fun c s3 ⟨x, H1, I1, r1, q1⟩ => ?_) h1
  obtain ⟨d, rfl, q⟩ := q1
  cases r1
  exact wpAny_truthy_bool ⟨H1, I1, q⟩
theorem pt_val {e : Expr} {t : TE} (h : PE X e t) (he : ∀ whole, isTrue e X.env whole = (do let v ← whole; standAt e.pos; holding [v] (truthy v)) := by intro _; rfl) : PT X e (tB t) := by
  intro pins s σ H Q I hw
  refine isTrue_plain (thn (h pins s σ H _ I hw) fun v s1 ⟨x, H1, I1, r1, q1⟩ => ?_) (he _)
  obtain ⟨d, rfl, q⟩ := q1
  cases r1
  exact wpAny_truthy_bool ⟨H1, I1, q⟩

/-! ### and, or, not -/
variable {tA tB' : TT} {rest : List Expr}
noncomputable def tAnd (t u : TT) : TT := fun σ H Q => t σ H fun c H1 => if c = true then u σ H1 Q else Q false H1
noncomputable def tOr (t u : TT) : TT := fun σ H Q => t σ H fun c H1 => if c = true then Q true H1 else u σ H1 Q
noncomputable def tNot (t : TT) : TT := fun σ H Q => t σ H fun c H1 => Q (!c) H1
theorem pw_and1 (ha : PT X a tA) : PW X (.BoolOp .And [a] pos) tA := by
  intro wh pins s σ H Q I h
  refine isTrue_and (thn (ha pins s σ H Q I h) fun c s1 e => ?_)
  cases c with
  | true => exact isTrue_and_nil e
  | false => exact e
theorem pw_or1 (ha : PT X a tA) : PW X (.BoolOp .Or [a] pos) tA := by
  intro wh pins s σ H Q I h
  refine isTrue_or (thn (ha pins s σ H Q I h) fun c s1 e => ?_)
  cases c with
  | false => exact isTrue_or_nil e
  | true => exact e
theorem pw_and (ha : PT X a tA) (hb : PW X (.BoolOp .And (b :: rest) pos) tB') : PW X (.BoolOp .And (a :: b :: rest) pos) (tAnd tA tB') := by
  intro wh pins s σ H Q I h
  refine isTrue_and (thn (ha pins s σ H _ I h) fun c s1 ⟨H1, I1, q1⟩ => ?_)
  cases c with
  | true => exact hb wh pins s1 σ H1 Q I1 q1
  | false => exact ⟨H1, I1, q1⟩
theorem pw_or (ha : PT X a tA) (hb : PW X (.BoolOp .Or (b :: rest) pos) tB') : PW X (.BoolOp .Or (a :: b :: rest) pos) (tOr tA tB') := by
  intro wh pins s σ H Q I h
  refine isTrue_or (thn (ha pins s σ H _ I h) fun c s1 ⟨H1, I1, q1⟩ => ?_)
  cases c with
  | true => exact ⟨H1, I1, q1⟩
  | false => exact hb wh pins s1 σ H1 Q I1 q1
theorem pt_not (ha : PT X a tA) : PT X (.UnaryOp .Not a pos) (tNot tA) := by
  intro pins s σ H Q I h
  exact isTrue_not (ha pins s σ H (fun c H1 => Q (!c) H1) I h)
noncomputable def tAndV (ta tb : TE) : TE := fun σ H Q => ta σ H fun x H1 => ∃ c, x = .bl c ∧ if c = true then tb σ H1 Q else Q (.bl false) H1
noncomputable def tNotV (ta : TE) : TE := fun σ H Q => ta σ H fun x H1 => ∃ c, x = .bl c ∧ Q (.bl (!c)) H1
theorem pe_one {op} {t : TE} (h : PE X a t) : PE X (.BoolOp op [a] pos) t := fun pins s σ H Q I hw => BoolOp_one (h pins s σ H Q I hw)
theorem pe_and (ha : PE X a ta) (hb : PE X (.BoolOp .And (b :: rest) pos) tb) : PE X (.BoolOp .And (a :: b :: rest) pos) (tAndV ta tb) := by
  intro pins s σ H Q I h
  refine BoolOp_and (thn (ha pins s σ H _ I h) fun v s1 ⟨x, H1, I1, r1, q1⟩ => ?_)
  obtain ⟨c, rfl, q1⟩ := q1
  cases r1
  refine wpAny_truthy_bool ?_
  cases c with
  | true => exact hb pins s1 σ H1 Q I1 q1
  | false => exact ⟨.bl false, H1, I1, rfl, q1⟩
theorem pe_not (ha : PE X a ta) : PE X (.UnaryOp .Not a pos) (tNotV ta) := by
  intro pins s σ H Q I h
  refine UnaryOp_ (thn (ha pins s σ H _ I h) fun v s1 ⟨x, H1, I1, r1, q1⟩ => ?_)
  obtain ⟨c, rfl, q1⟩ := q1
  cases r1
  exact not_of (wpAny_truthy_bool ⟨.bl (!c), H1, I1, rfl, q1⟩)
end
end L2
namespace L2
open PySem PySem.Spec PyProof.Rows
/-! ### a list, a tuple that is read: tracked, frozen, or an object of the module -/
noncomputable def SqL (K : PySem.W.Frag) (H : Hp) (a : Addr) (xs : List V) : Prop :=
  Rd H a (.lst xs) ∨
    ∃ (o : Obj) (its : Array Value) (n : Nat), K.lookup a = some o ∧ o.cls = .type "list" ∧ o.dict = none ∧ o.data = .seq its n ∧ its.size ≤ sizeLine ∧ Vals xs its.toList
noncomputable def SqT (K : PySem.W.Frag) (H : Hp) (a : Addr) (xs : List V) : Prop :=
  Rd H a (.tup xs) ∨
    ∃ (o : Obj) (its : Array Value) (n : Nat), K.lookup a = some o ∧ o.cls = .type "tuple" ∧ o.data = .seq its n ∧ its.size ≤ sizeLine ∧ Vals xs its.toList
noncomputable def absV : Value → Option V
  | .none => some .non
  | .bool b => some (.bl b)
  | .int i _ => some (.int i)
  | .str x _ => some (.str x)
  | .bytes b _ => some (.byt b)
  | .float b _ => some (.flt b)
  | .ref a => some (.ref a)
  | .type n => some (.ty n)
  | _ => none
theorem RelV.abs {x : V} {u : Value} (r : RelV x u) : absV u = some x := by
  cases x with
  | non => cases r; rfl
  | bl _ => cases r; rfl
  | int _ => obtain ⟨t, rfl⟩ := r; rfl
  | str _ => obtain ⟨t, rfl⟩ := r; rfl
  | byt _ => obtain ⟨t, rfl⟩ := r; rfl
  | flt _ => obtain ⟨t, rfl⟩ := r; rfl
  | ref _ => cases r; rfl
  | ty _ => cases r; rfl
theorem RelV.inj {x y : V} {u : Value} (r : RelV x u) (q : RelV y u) : x = y := Option.some.inj (r.abs.symm.trans q.abs)
theorem Vals.inj : ∀ {xs ys : List V} {us : List Value}, Vals xs us → Vals ys us → xs = ys
  | _, _, _, .nil, .nil => rfl
  | _, _, _, .cons r t, .cons r' t' => by rw [r.inj r', Vals.inj t t']
section
variable {X : Cx} {pins : List (Addr × Obj)} {σ : St} {H : Hp} {s : Shared} {a : Addr} {xs ys : List V}
theorem SqL.of {K : PySem.W.Frag} (h : H a = some (.lst xs)) : SqL K H a xs := .inl (.inl h)
theorem SqT.of {K : PySem.W.Frag} (h : H a = some (.tup xs)) : SqT K H a xs := .inl (.inl h)
theorem Inv.list (I : Inv X pins σ H s) (h : SqL X.K H a xs) : ∃ its : List Value, Vals xs its ∧ PlainL s.heap a its.toArray ∧ xs.length ≤ sizeLine := by
  rcases h with h | ⟨o, its, n, hk, hc, hd, hs, hz, r⟩
  · obtain ⟨z, its, n, r, e⟩ := h.ok I.hok
    exact ⟨its, r, ⟨_, n, e, rfl, rfl, rfl⟩, z⟩
  · refine ⟨its.toList, r, ⟨o, n, I.kIn a o hk, hc, hd, by simpa using hs⟩, ?_⟩
    have e := r.length
    simp only [Array.length_toList] at e
    omega
theorem Inv.tuple (I : Inv X pins σ H s) (h : SqT X.K H a xs) : ∃ its : List Value, Vals xs its ∧ IsTup s.heap a its.toArray ∧ xs.length ≤ sizeLine := by
  rcases h with h | ⟨o, its, n, hk, hc, hs, hz, r⟩
  · obtain ⟨z, its, r, p⟩ := h.ok I.hok
    exact ⟨its, r, p, z⟩
  · refine ⟨its.toList, r, ⟨o, I.kIn a o hk, hc, n, by simpa using hs⟩, ?_⟩
    have e := r.length
    simp only [Array.length_toList] at e
    omega
theorem Inv.list_inj (I : Inv X pins σ H s) (h : SqL X.K H a xs) (h' : SqL X.K H a ys) : xs = ys := by
  obtain ⟨its, r, ⟨o, n, e, _, _, d⟩, _⟩ := I.list h
  obtain ⟨its', r', ⟨o', n', e', _, _, d'⟩, _⟩ := I.list h'
  rw [e] at e'; cases e'
  rw [d] at d'
  injection d' with d1 _
  have : its = its' := by simpa using congrArg Array.toList d1
  subst this
  exact r.inj r'
end
/-! ### another wish about exceptions -/
noncomputable abbrev Cx.wish (X : Cx) (E : Value → Shared → Prop) : Cx := { X with xe := E }
noncomputable abbrev Cx.nox (X : Cx) : Cx := X.wish fun _ _ => False
theorem Cx.Ok.wish {X : Cx} (ok : X.Ok) (E : Value → Shared → Prop) : (X.wish E).Ok :=
  ⟨ok.mod, ok.kind, ok.glob, ok.blt, ok.above, ok.inj, ok.has, ok.cab, ok.hd, ok.frames, ok.stk, ok.exf, ok.bs, ok.bsz, ok.noex, ok.exfs, ok.funs, ok.frf⟩
theorem Cx.Ok.unwish {X : Cx} {E : Value → Shared → Prop} (ok : (X.wish E).Ok) : X.Ok :=
  ⟨ok.mod, ok.kind, ok.glob, ok.blt, ok.above, ok.inj, ok.has, ok.cab, ok.hd, ok.frames, ok.stk, ok.exf, ok.bs, ok.bsz, ok.noex, ok.exfs, ok.funs, ok.frf⟩
section
variable {X : Cx} {pins : List (Addr × Obj)} {σ : St} {H : Hp} {s : Shared} {E : Value → Shared → Prop}
theorem Inv.wish (I : Inv X pins σ H s) (E : Value → Shared → Prop) : Inv (X.wish E) pins σ H s := ⟨I.ok.wish E, I.os, I.bare, I.base, I.loc, I.cell, I.free, I.freeC, I.pin, I.hok, I.len⟩
theorem Inv.unwish (I : Inv (X.wish E) pins σ H s) : Inv X pins σ H s := ⟨I.ok.unwish, I.os, I.bare, I.base, I.loc, I.cell, I.free, I.freeC, I.pin, I.hok, I.len⟩
theorem SP.unwish {D : Ends} {f : Flow} {s' : Shared} (h : SP (X.wish E) pins D f s') : SP X pins D f s' := by
  cases f with
  | next => obtain ⟨σ', H', I, q⟩ := h; exact ⟨σ', H', I.unwish, q⟩
  | brk => obtain ⟨σ', H', I, q⟩ := h; exact ⟨σ', H', I.unwish, q⟩
  | cont => obtain ⟨σ', H', I, q⟩ := h; exact ⟨σ', H', I.unwish, q⟩
  | ret u => obtain ⟨v, σ', H', I, r, q⟩ := h; exact ⟨v, σ', H', I.unwish, r, q⟩
theorem PE.nox {e : Expr} {t : TE} (h : PE X.nox e t) : PE X e t := fun pins s σ H Q I hw =>
  wpAny_mono (h pins s σ H Q (I.wish _) hw) (fun _ _ ⟨v, H', I', r, q⟩ => ⟨v, H', I'.unwish, r, q⟩) fun _ _ z => False.elim z
theorem PT.nox {e : Expr} {t : TT} (h : PT X.nox e t) : PT X e t := fun pins s σ H Q I hw =>
  wpAny_mono (h pins s σ H Q (I.wish _) hw) (fun _ _ ⟨H', I', q⟩ => ⟨H', I'.unwish, q⟩) fun _ _ z => False.elim z
theorem PSs.nox {st : List Stmt} {t : TS} (h : PSs X.nox st t) : PSs X st t := fun pins s σ H D I hw =>
  wpAny_mono (h pins s σ H D (I.wish _) hw) (fun _ _ q => q.unwish) fun _ _ z => False.elim z
end
/-! ### blocks and small statements -/
section
variable {X : Cx} {st : Stmt} {rest : List Stmt} {t u : TS} {e : Expr} {te : TE} {pos : Pos}
noncomputable def tNext : TS := fun D σ H => D.nx σ H
noncomputable def tSeq (t u : TS) : TS := fun D σ H => t { D with nx := u D } σ H
theorem pss_nil : PSs X [] tNext := fun _ _ σ H _ I h => wpAny_execs_nil ⟨σ, H, I, h⟩
theorem pss_cons (h1 : PS X st t) (h2 : PSs X rest u) : PSs X (st :: rest) (tSeq t u) := by
  intro pins s σ H D I h
  refine wpAny_execs_cons (thn (h1 pins s σ H { D with nx := u D } I h) fun f s1 q => ?_)
  cases f with
  | next =>
    obtain ⟨σ', H', I', q⟩ := q
    exact h2 pins s1 σ' H' D I' q
  | ret v => exact q
  | brk => exact q
  | cont => exact q
theorem pss_one (h1 : PS X st t) : PSs X [st] t := by
  intro pins s σ H D I h
  refine wpAny_execs_cons (thn (h1 pins s σ H D I h) fun f s1 q => ?_)
  cases f with
  | next => exact wpAny_execs_nil q
  | ret v => exact q
  | brk => exact q
  | cont => exact q
theorem Inv.quiet {pins : List (Addr × Obj)} {σ : St} {H : Hp} {s : Shared} (I : Inv X pins σ H s) : interactive X.env = false := by simp [interactive, I.ok.kind]
noncomputable def tDrop (te : TE) : TS := fun D σ H => te σ H fun _ H1 => D.nx σ H1
theorem ps_expr (he : PE X e te) (hs : swapsWith e none pos.line X.env = pure false := by rfl) : PS X (.Expr e pos) (tDrop te) := by
  intro pins s σ H D I h
  exact wpAny_Expr_any (thn (he pins s σ H _ I h) fun v s1 ⟨x, H1, I1, r1, q1⟩ => ⟨σ, H1, I1, q1⟩) I.quiet hs
noncomputable def tRet (te : TE) : TS := fun D σ H => te σ H D.rt
theorem ps_ret (he : PE X e te) : PS X (.Return (some e) pos) (tRet te) := by
  intro pins s σ H D I h
  exact wpAny_Return_some (thn (he pins s σ H _ I h) fun v s1 ⟨x, H1, I1, r1, q1⟩ => ⟨x, σ, H1, I1, r1, q1⟩)
noncomputable def tIfS (c : TT) (t u : TS) : TS := fun D σ H => c σ H fun b H1 => if b = true then t D σ H1 else u D σ H1
theorem ps_if {c : Expr} {a b : List Stmt} {tc : TT} (hc : PT X c tc) (ha : PSs X a t) (hb : PSs X b u) : PS X (.If c a b pos) (tIfS tc t u) := by
  intro pins s σ H D I h
  refine wpAny_If (thn (hc pins s σ H _ I h) fun d s1 ⟨H1, I1, q1⟩ => ?_)
  cases d with
  | true => exact ha pins s1 σ H1 D I1 q1
  | false => exact hb pins s1 σ H1 D I1 q1
noncomputable def tNever : TS := fun _ _ _ => False
theorem pss_never {sts : List Stmt} : PSs X sts tNever := fun _ _ _ _ _ _ h => h.elim
end
/-! ### targets -/
noncomputable abbrev TG := V → St → Hp → (St → Hp → Prop) → Prop
noncomputable def PG (X : Cx) (target : Expr) (t : TG) : Prop :=
  ∀ (pins : List (Addr × Obj)) (s : Shared) (σ : St) (H : Hp) (v : V) (u : Value) (Q : St → Hp → Prop), Inv X pins σ H s → RelV v u → t v σ H Q →
    wpAny (model X.prog X.w) X.A (assign target X.env u) (fun _ s' => ∃ σ' H', Inv X pins σ' H' s' ∧ Q σ' H') X.xe s
noncomputable abbrev TSet := V → V → V → Hp → (Hp → Prop) → Prop
noncomputable def PSet (X : Cx) (t : TSet) : Prop :=
  ∀ (pins : List (Addr × Obj)) (s : Shared) (σ : St) (H : Hp) (o i v : V) (ov iv u : Value) (Q : Hp → Prop), Inv X pins σ H s → RelV o ov → RelV i iv → RelV v u → t o i v H Q →
    wpAny (model X.prog X.w) X.A (setItem ov iv u) (fun _ s' => ∃ H', Inv X pins σ H' s' ∧ Q H') X.xe s
section
variable {X : Cx} {pos : Pos}
noncomputable def gName (i : Nat) : TG := fun v σ H Q => Q (σ.set i (some v)) H
theorem pg_name {i : Nat} {x : Str} (hN : X.N.Nodup) (hi : X.N[i]? = some x) (hx : Loc X.env.scope x) (hf : X.fn x = true ∨ X.env.scope.names.lookup x = some .local := by first | exact .inl rfl | exact .inr rfl | assumption) : PG X (.Name x pos) (gName i) := by
  intro pins s σ H v u Q I r h
  exact wpAny_assign_Name (store_ok I hN hi hx r (fun s' I' => ⟨_, H, I', h⟩) hf)
noncomputable def gSub (to ti : TE) (t : TSet) : TG := fun v σ H Q => to σ H fun o H1 => ti σ H1 fun i H2 => t o i v H2 fun H3 => Q σ H3
theorem pg_sub {o i : Expr} {to ti : TE} {t : TSet} (ho : PE X o to) (hi : PE X i ti) (hs : PSet X t)
    (ha : ∀ v, assign (.Subscript o i pos) X.env v = (do
      let ov ← holding [v] (eval o X.env)
      let iv ← holding [v, ov] (eval i X.env)
      standAt pos
      holding [v, ov, iv] (setItem ov iv v)
      release [v, ov, iv] []) := by intro _; rfl) : PG X (.Subscript o i pos) (gSub to ti t) := by
  intro pins s σ H v u Q I r h
  rw [ha]
  refine wpAny_bind (wpAny_holding (thn (ho pins s σ H _ I h) fun ov s1 ⟨x, H1, I1, r1, q1⟩ => ?_))
  refine wpAny_bind (wpAny_holding (thn (hi pins s1 σ H1 _ I1 q1) fun iv s2 ⟨y, H2, I2, r2, q2⟩ => ?_))
  refine wpAny_bind (wpAny_standAt (wpAny_bind (wpAny_holding (thn (hs pins s2 σ H2 x y v ov iv u _ I2 r1 r2 r q2) fun _ s3 ⟨H3, I3, q3⟩ => ?_))))
  exact wpAny_release ⟨σ, H3, I3, q3⟩
noncomputable def tAsg (te : TE) (g : TG) : TS := fun D σ H => te σ H fun x H1 => g x σ H1 D.nx
theorem ps_asg {tg e : Expr} {te : TE} {g : TG} (he : PE X e te) (hg : PG X tg g) (hs : swapsWithSole [tg] e pos.line X.env = pure false := by rfl) (hw : swappedStores [tg] e X.env = pure none := by rfl)
    (h1 : (assignEach [tg] X.env).map (·.2) = [assign tg X.env] := by rfl) : PS X (.Assign [tg] e pos) (tAsg te g) := by
  intro pins s σ H D I h
  refine wpAny_Assign_stores (thn (he pins s σ H _ I h) fun v s1 ⟨x, H1, I1, r1, q1⟩ => ?_) hs hw
  rw [h1]
  exact thn (hg pins s1 σ H1 x v _ I1 r1 q1) fun _ s2 q => q
theorem ps_set {i : Nat} {x : Str} {e : Expr} {te : TE} {pos' : Pos} (hN : X.N.Nodup) (hi : X.N[i]? = some x) (hx : Loc X.env.scope x) (he : PE X e te) (hs : swapsWith e (some (.Name x pos')) pos.line X.env = pure false := by rfl) (hf : X.fn x = true ∨ X.env.scope.names.lookup x = some .local := by first | exact .inl rfl | exact .inr rfl | assumption) :
    PS X (.Assign [.Name x pos'] e pos) (tAsg te (gName i)) := by
  intro pins s σ H D I h
  refine wpAny_Assign_Name (thn (he pins s σ H _ I h) fun v s1 ⟨y, H1, I1, r1, q1⟩ => ?_) hs
  exact store_ok I1 hN hi hx r1 (fun s2 I2 => ⟨_, H1, I2, q1⟩) hf
end
/-! ### while -/
section
variable {X : Cx} {pos : Pos}
end
/-! ### what a loop or a comprehension walks -/
structure It where
  go : Nat → Hp → Prop
  yld : Nat → Hp → V → Hp → Prop
  stop : Nat → Hp → Prop
noncomputable def FpOk (X : Cx) (pins : List (Addr × Obj)) (H : Hp) (b : Addr) : Prop :=
  H b = none ∧ b ≠ X.env.locals ∧ b ∉ X.fs ∧ (b ∈ X.ex ∨ X.s₀.heap.objs.size ≤ b) ∧ (∀ x c, X.env.cells.lookup x = some c → c ≠ b) ∧ ∀ p ∈ X.pn ++ pins, p.1 ≠ b
theorem Inv.fpOk {X : Cx} {pins : List (Addr × Obj)} {σ : St} {H H' : Hp} {s : Shared} {b : Addr} (I : Inv X pins σ H s) (hb : s.heap.objs.size ≤ b) (hn : H' b = none) : FpOk X pins H' b := by
  refine ⟨hn, Nat.ne_of_gt (Nat.lt_of_lt_of_le I.lt hb), I.nofs hb, .inr (Nat.le_trans I.sz hb), fun x c e z => ?_, fun p hp z => ?_⟩
  · obtain ⟨v, q⟩ := I.cell x c e
    exact absurd (Nat.lt_of_lt_of_le q.lt (by rw [z]; exact hb)) (Nat.lt_irrefl _)
  · exact absurd (Nat.lt_of_lt_of_le (Heap.lt_size (I.pin p hp).1) (by rw [z]; exact hb)) (Nat.lt_irrefl _)
structure Turn (P : Program) (w : World) (K : PySem.W.Frag) (tg : Expr) (J : It) (fp : List Addr) (it : Addr) (tn : Nat → Heap → Prop) : Prop where
  mem : it ∈ fp
  obj : ∀ i h, tn i h → ∀ b ∈ fp, ∃ o, h.get? b = some o ∧ ∀ v, o.data ≠ .cell v
  keep : ∀ i h h', tn i h → (∀ b ∈ fp, ∀ o, h.get? b = some o → h'.get? b = some o) → tn i h'
  item : ∀ (X : Cx), X.prog = P → X.w = w → X.K = K → X.calm = true → ∀ (i : Nat) (pins : List (Addr × Obj)) (s : Shared) (σ : St) (H : Hp) (E : Value → Shared → Prop), Inv X pins σ H s → (∀ b ∈ fp, FpOk X pins H b) → tn i s.heap → J.go i H →
    wpAny (model P w) X.A (pyNext (.ref it)) (fun r s1 => ∃ u, r = some u ∧
      wpAny (model P w) X.A (letOwnedTupleGo tg (.ref it) u) (fun _ s2 => ∃ x H', Inv X pins σ H' s2 ∧ RelV x u ∧ J.yld i H x H' ∧ tn (i + 1) s2.heap ∧ ∀ b ∈ fp, H' b = none) E s1) E s
  done : ∀ (X : Cx), X.prog = P → X.w = w → X.K = K → X.calm = true → ∀ (i : Nat) (pins : List (Addr × Obj)) (s : Shared) (σ : St) (H : Hp) (E : Value → Shared → Prop), Inv X pins σ H s → (∀ b ∈ fp, FpOk X pins H b) → tn i s.heap → J.stop i H →
    wpAny (model P w) X.A (pyNext (.ref it)) (fun r s1 => r = none ∧ Inv X pins σ H s1) E s
  self : ∀ (A : Around) (i : Nat) (s : Shared) (Q : Value → Shared → Prop) (E : Value → Shared → Prop), tn i s.heap → Q (.ref it) s → wpAny (model P w) A (pyIter (.ref it)) Q E s
noncomputable abbrev TI := St → Hp → (It → Hp → Prop) → Prop
noncomputable def PIE (X : Cx) (pins : List (Addr × Obj)) (σ : St) (tg : Expr) (R : It → Hp → Prop) (itv : Value) (s2 : Shared) : Prop :=
  ∃ (it : Addr) (fp : List Addr) (tn : Nat → Heap → Prop) (J : It) (H' : Hp), itv = .ref it ∧ Inv X pins σ H' s2 ∧ Turn X.prog X.w X.K tg J fp it tn ∧ tn 0 s2.heap ∧ (∀ b ∈ fp, FpOk X pins H' b) ∧ R J H'
noncomputable def PI (X : Cx) (tg iter : Expr) (wi : TI) : Prop :=
  ∀ (pins : List (Addr × Obj)) (s : Shared) (σ : St) (H : Hp) (R : It → Hp → Prop), Inv X pins σ H s → wi σ H R →
    wpAny (model X.prog X.w) X.A (eval iter X.env) (fun v s1 => wpAny (model X.prog X.w) X.A (pyIter v) (PIE X pins σ tg R) X.xe s1) X.xe s

theorem go_of {M : Model} {A : Around} {E : Value → Shared → Prop} {s : Shared} {tg : Expr} {it : Addr} {u : Value} {o : Obj} {n : String} {vs : Array Value} {Q : Unit → Shared → Prop} (ho : s.heap.get? it = some o) (hc : o.cls = .type n) (hd : o.data = .fields vs)
    (hn : ["enumerate", "zip", "dict_itemiterator", "dict_reverseitemiterator", "odict_iterator", "itertools.zip_longest", "itertools.pairwise"].contains n = false) (hQ : Q () s) : wpAny M A (letOwnedTupleGo tg (.ref it) u) Q E s := by
  unfold letOwnedTupleGo
  cases tg <;> first
    | exact wpAny_pure hQ
    | (cases u <;> first
        | exact wpAny_pure hQ
        | (refine wpAny_bind (wpAny_load ho ?_)
           rw [hc, hd]
           show wpAny M A (if (["enumerate", "zip", "dict_itemiterator", "dict_reverseitemiterator", "odict_iterator", "itertools.zip_longest", "itertools.pairwise"].contains n && vs[0]? == some (rawInt _)) = true then _ else _) Q E s
           rw [if_neg (by intro h; rw [hn, Bool.false_and] at h; cases h)]
           exact wpAny_pure hQ))

noncomputable def Itl (K : PySem.W.Frag) (a : Addr) : It :=
  ⟨fun i H => ∃ xs x, SqL K H a xs ∧ xs[i]? = some x, fun i H x H' => H' = H ∧ ∀ xs, SqL K H a xs → xs[i]? = some x, fun i H => ∃ xs, SqL K H a xs ∧ xs.length ≤ i⟩
noncomputable def Itr (lo : Int) (n : Nat) : It := ⟨fun i _ => i < n, fun i H x H' => H' = H ∧ x = .int (lo + i), fun i _ => n ≤ i⟩
theorem turn_list {P : Program} {w : World} {K : PySem.W.Frag} {tg : Expr} (a it : Addr) : Turn P w K tg (Itl K a) [it] it (fun i h => h.IsListIter it a i) where
  mem := by simp
  obj := fun i h st b hb => by
    have e : b = it := by simpa using hb
    subst e
    obtain ⟨o, e, c, d⟩ := st
    exact ⟨o, e, fun v z => by rw [d] at z; cases z⟩
  keep := fun i h h' st k => st.at fun o e => k it (by simp) o e
  item := by
    intro X hP hw hK hc i pins s σ H E I hf st hg
    subst hP hw hK
    obtain ⟨xs, x, hq, hx⟩ := hg
    obtain ⟨its, rv, p, hz⟩ := I.list hq
    obtain ⟨u, hu, ru⟩ := rv.get hx
    obtain ⟨f0, f1, f2, f3, f4, f5⟩ := hf it (by simp)
    refine wpAny_pyNext_list_item st p.isList (x := u) (by simpa using hu) fun h' st' sb => ?_
    have I1 : Inv X pins σ H { s with heap := h' } := I.turned (t' := s.toks) (fun b o hb e => (sb.2 b hb).trans e) f0 f1 f3 f4 f5
    obtain ⟨o, e, c, d⟩ := id st'
    exact ⟨u, rfl, go_of (s := { s with heap := h' }) e c d (by decide) ⟨x, H, I1, ru, ⟨rfl, fun ys hy => by rw [I.list_inj hy hq]; exact hx⟩, st', fun b hb => (hf b hb).1⟩⟩
  done := by
    intro X hP hw hK hc i pins s σ H E I hf st hg
    subst hP hw hK
    obtain ⟨xs, hq, hx⟩ := hg
    obtain ⟨its, rv, p, hz⟩ := I.list hq
    obtain ⟨f0, f1, f2, f3, f4, f5⟩ := hf it (by simp)
    have hl := rv.length
    exact wpAny_pyNext_list_end (I.ok.hd hc) st p.isList (by simp; omega) fun h' eb => ⟨rfl, I.turned (t' := s.toks) (fun b o hb e => eb b o hb e) f0 f1 f3 f4 f5⟩
  self := fun _ _ _ _ _ st h => wpAny_pyIter_listiter st h
theorem turn_range {P : Program} {w : World} {K : PySem.W.Frag} {tg : Expr} (it : Addr) (lo : Int) (n : Nat) : Turn P w K tg (Itr lo n) [it] it (fun i h => IsRangeIter h it (lo + (i : Nat) * 1) ((n : Int) - (i : Nat)) 1) where
  mem := by simp
  obj := fun i h st b hb => by
    have e : b = it := by simpa using hb
    subst e
    exact ⟨_, st, fun v z => by
      have z' : Data.fields _ = Data.cell v := z
      cases z'⟩
  keep := fun i h h' st k => k it (by simp) _ st
  item := by
    intro X hP hw hK hc i pins s σ H E I hf st hg
    subst hP hw hK
    obtain ⟨f0, f1, f2, f3, f4, f5⟩ := hf it (by simp)
    have W := Walks.range (prog := X.prog) (w := X.w) (I.ok.hd hc) it lo 1 n
    refine W.item i s _ _ hg st fun v h' tk hv st' kk => ?_
    obtain ⟨t, rfl⟩ := hv
    have I1 : Inv X pins σ H { s with heap := h', toks := tk } := I.turned (fun b o hb e => kk b o (by simpa using hb) e) f0 f1 f3 f4 f5
    refine ⟨_, rfl, go_of (s := { s with heap := h', toks := tk }) (n := "range_iterator") st' rfl rfl (by decide) ⟨.int (lo + i), H, I1, ⟨t, ?_⟩, ⟨rfl, rfl⟩, st', fun b hb => (hf b hb).1⟩⟩
    rw [Int.mul_one]
  done := by
    intro X hP hw hK hc i pins s σ H E I hf st hg
    subst hP hw hK
    obtain ⟨f0, f1, f2, f3, f4, f5⟩ := hf it (by simp)
    exact wpAny_pyNext_range_end (I.ok.hd hc) st (by have : n ≤ i := hg; omega) fun h' eb => ⟨rfl, I.turned (t' := s.toks) (fun b o hb e => eb b o hb e) f0 f1 f3 f4 f5⟩
  self := fun _ _ _ _ _ st h => wpAny_pyIter_rangeiter st h
end L2
namespace L2
open PySem PySem.Spec PyProof.Rows
section
variable {X : Cx} {tg : Expr}
noncomputable def iList (K : PySem.W.Frag) (tl : TE) : TI := fun σ H R => tl σ H fun x H1 => ∃ a, x = .ref a ∧ (∃ xs, SqL K H1 a xs) ∧ R (Itl K a) H1
theorem pi_list {l : Expr} {tl : TE} (hl : PE X l tl) : PI X tg l (iList X.K tl) := by
  intro pins s σ H R I h
  refine thn (hl pins s σ H _ I h) fun v s1 ⟨x, H1, I1, r1, q1⟩ => ?_
  obtain ⟨a, e, ⟨xs, hq⟩, q⟩ := q1
  subst e
  cases r1
  obtain ⟨its, rv, p, hz⟩ := I1.list hq
  refine wpAny_pyIter_list p.isList ?_
  refine ⟨s1.heap.objs.size, [s1.heap.objs.size], _, _, H1, rfl, I1.kept (t' := s1.toks) fun b o e => Heap.get?_push_of_some _ e, turn_list a _, ⟨_, Heap.get?_push_size _ rfl, rfl, rfl⟩, fun b hb => ?_, q⟩
  have e : b = s1.heap.objs.size := by simpa using hb
  subst e
  exact I1.fpOk (Nat.le_refl _) (I1.hok.fresh (Nat.le_refl _))
theorem range_it {pins : List (Addr × Obj)} {σ : St} {H : Hp} {s : Shared} {R : It → Hp → Prop} {E : Value → Shared → Prop} {lo hi : Int} {t u v : Tok} {tk : Nat} (I : Inv X pins σ H s) (h1 : -(2 ^ 62) ≤ lo) (h2 : lo < 2 ^ 62) (h3 : -(2 ^ 62) ≤ hi) (h4 : hi < 2 ^ 62)
    (q : R (Itr lo (hi - lo).toNat) H) : wpAny (model X.prog X.w) X.A (pyIter (.ref s.heap.objs.size)) (PIE X pins σ tg R) E { s with heap := s.heap.push { cls := .type "range", data := .fields #[.int lo t, .int hi u, .int 1 v] }, toks := tk } := by
  refine wpAny_pyIter_range (IsRange.new ..) (small_one h1 h2 h3 h4) ?_
  have I1 : Inv X pins σ H { s with heap := s.heap.push { cls := .type "range", data := .fields #[.int lo t, .int hi u, .int 1 v] }, toks := tk } := I.kept fun b o e => Heap.get?_push_of_some _ e
  refine ⟨(s.heap.push { cls := .type "range", data := .fields #[.int lo t, .int hi u, .int 1 v] }).objs.size, [(s.heap.push { cls := .type "range", data := .fields #[.int lo t, .int hi u, .int 1 v] }).objs.size], _, _, H, rfl,
    I1.kept (t' := tk) fun b o e => Heap.get?_push_of_some _ e, turn_range _ lo (hi - lo).toNat, ?_, fun b hb => ?_, q⟩
  · have e1 : lo + ((0 : Nat) : Int) * 1 = lo := by simp
    have e2 : (((hi - lo).toNat : Nat) : Int) - ((0 : Nat) : Int) = Builtin.Range.rangeSize lo hi 1 := by rw [rangeSize_one]; split <;> omega
    show IsRangeIter _ _ (lo + ((0 : Nat) : Int) * 1) ((((hi - lo).toNat : Nat) : Int) - ((0 : Nat) : Int)) 1
    rw [e1, e2]
    exact Heap.get?_push_size _ rfl
  · have e : b = (s.heap.push { cls := .type "range", data := .fields #[.int lo t, .int hi u, .int 1 v] }).objs.size := by simpa using hb
    subst e
    exact I1.fpOk (Nat.le_refl _) (I1.hok.fresh (Nat.le_refl _))
noncomputable def iRng1 (ta : TA) : TI := fun σ H R => ta σ H fun vs H1 => ∃ j : Int, vs = [.int j] ∧ -(2 ^ 62) ≤ j ∧ j < 2 ^ 62 ∧ R (Itr 0 j.toNat) H1
theorem pi_range1 {a : Expr} {ta : TA} {p pos : Pos} (hg : Gl X "range") (hm : X.mg "range" = none) (ha : PA X [a] ta) (hs : starEach [a] X.env = [(false, eval a X.env)] := by rfl) : PI X tg (.Call (.Name "range" p) [a] [] pos) (iRng1 ta) := by
  intro pins s σ H R I h
  refine Call_ (ld_blt I hg hm boot_range (PyProof.Rows.callWith_type1 (thn (ha pos pins s σ H _ I h) fun us s1 ⟨vs, H1, I1, r1, q1⟩ => ?_) hs rfl))
  obtain ⟨j, e, q1, q2, q⟩ := q1
  subst e
  cases r1 with
  | cons r rr =>
    cases rr
    obtain ⟨t, rfl⟩ := r
    exact call_range_1 (range_it I1 (by omega) (by omega) q1 q2 (by simpa using q))
/-! ### for -/
noncomputable def tFor (wi : TI) (g : TG) (tb : TS) : TS := fun D σ H => wi σ H fun J H1 => ∃ W : Nat → Nat → St → Hp → Prop, (∃ m, W 0 m σ H1) ∧ ∀ i m σ H, W i m σ H →
  (J.stop i H ∧ D.nx σ H) ∨ (J.go i H ∧ ∃ N : St → Hp → Prop, (∀ σ' H', N σ' H' → ∃ m', m' < m ∧ W (i + 1) m' σ' H') ∧ ∀ x H', J.yld i H x H' → g x σ H' fun σ2 H2 => tb { D with nx := N, ct := N, bk := D.nx } σ2 H2)
noncomputable def pinsAt (fp : List Addr) (h : Heap) : List (Addr × Obj) := fp.filterMap fun b => (h.get? b).map fun o => (b, o)
theorem mem_pinsAt {fp : List Addr} {h : Heap} {b : Addr} {o : Obj} (hb : b ∈ fp) (e : h.get? b = some o) : (b, o) ∈ pinsAt fp h := List.mem_filterMap.mpr ⟨b, hb, by rw [e]; rfl⟩
theorem of_pinsAt {fp : List Addr} {h : Heap} {p : Addr × Obj} (hp : p ∈ pinsAt fp h) : p.1 ∈ fp ∧ h.get? p.1 = some p.2 := by
  obtain ⟨b, hb, e⟩ := List.mem_filterMap.mp hp
  cases q : h.get? b with
  | none => rw [q] at e; cases e
  | some o =>
    rw [q] at e
    have e' : (b, o) = p := Option.some.inj e
    subst e'
    exact ⟨hb, q⟩
theorem Inv.pinned {pins : List (Addr × Obj)} {σ : St} {H : Hp} {s : Shared} {fp : List Addr} (I : Inv X pins σ H s) (hf : ∀ b ∈ fp, FpOk X pins H b) (ho : ∀ b ∈ fp, ∃ o, s.heap.get? b = some o ∧ ∀ v, o.data ≠ .cell v) : Inv X (pins ++ pinsAt fp s.heap) σ H s :=
  I.pins_of fun p hp => (List.mem_append.mp hp).elim (fun z => I.pin p (List.mem_append_right _ z)) fun z => by
    obtain ⟨hb, e⟩ := of_pinsAt z
    obtain ⟨f0, f1, f2, _⟩ := hf p.1 hb
    obtain ⟨o, e', d⟩ := ho p.1 hb
    rw [e] at e'; cases e'
    exact ⟨e, f0, f1, f2, d⟩
theorem Inv.unpinned {pins pl : List (Addr × Obj)} {σ : St} {H : Hp} {s : Shared} (I : Inv X (pins ++ pl) σ H s) : Inv X pins σ H s := I.pins_of fun p hp => I.pin p (List.mem_append_right _ (List.mem_append_left _ hp))
theorem ps_for {iter : Expr} {body : List Stmt} {wi : TI} {g : TG} {tb : TS} {pos : Pos} (hp : PassesOwn (model X.prog X.w) X.A X.env X.xe) (hc : X.calm = true) (hi : PI X tg iter wi) (hg : PG X tg g) (hb : PSs X body tb)
    (hs : ∀ x, foldedSetIterable iter X.env x = pure x := by intro _; rfl) : PS X (.For tg iter body [] pos) (tFor wi g tb) := by
  intro pins s σ H D I h
  refine wpAny_For (thn (hi pins s σ H _ I h) fun v s1 h1 => thn h1 fun itv s2 h2 => ?_) hs
  obtain ⟨it, fp, tn, J, H2, e, I2, T, st2, f2, W, ⟨m0, w0⟩, turn⟩ := h2
  subst e
  -- what stays true of the iterator's objects through the loop
  have stat : ∀ {H' : Hp}, (∀ b ∈ fp, H' b = none) → ∀ b ∈ fp, FpOk X pins H' b := fun hn b hb => ⟨hn b hb, (f2 b hb).2⟩
  refine codeAny_forLoop_any (fun n s' => ∃ i σ' H', Inv X pins σ' H' s' ∧ tn i s'.heap ∧ (∀ b ∈ fp, H' b = none) ∧ W i n σ' H') ?_ m0 ⟨0, σ, H2, I2, st2, fun b hb => (f2 b hb).1, w0⟩
  rintro n s3 ⟨i, σ3, H3, I3, st3, fr3, w3⟩
  rcases turn i n σ3 H3 w3 with ⟨stop, qn⟩ | ⟨go, N, hN, step⟩
  · refine wpAny_passesOwn hp (thn (T.done X rfl rfl rfl hc i pins s3 σ3 H3 X.xe I3 (stat fr3) st3 stop) fun r s4 ⟨hr, I4⟩ => ?_)
    subst hr
    exact wpAny_execs_nil ⟨σ3, H3, I4, qn⟩
  · refine wpAny_passesOwn hp (thn (T.item X rfl rfl rfl hc i pins s3 σ3 H3 X.xe I3 (stat fr3) st3 go) fun r s4 ⟨u, hr, h4⟩ => ?_)
    subst hr
    refine wpAny_passesOwn hp (thn h4 fun _ s5 ⟨x, H5, I5, r5, y5, st5, fr5⟩ => ?_)
    have I5' := I5.pinned (stat fr5) (T.obj _ _ st5)
    refine wpAny_passesOwn hp (thn (hg _ s5 σ3 H5 x u _ I5' r5 (step x H5 y5)) fun _ s6 ⟨σ6, H6, I6, q6⟩ => ?_)
    refine wpAny_passesOwn hp (thn (hb _ s6 σ6 H6 _ I6 q6) fun f s7 q7 => ?_)
    have again : ∀ {σ7 : St} {H7 : Hp}, Inv X (pins ++ pinsAt fp s5.heap) σ7 H7 s7 → N σ7 H7 → ∃ m, m < n ∧ ∃ i σ' H', Inv X pins σ' H' s7 ∧ tn i s7.heap ∧ (∀ b ∈ fp, H' b = none) ∧ W i m σ' H' := fun {σ7 H7} I7 n7 => by
      obtain ⟨m', hm, w7⟩ := hN σ7 H7 n7
      refine ⟨m', hm, i + 1, σ7, H7, I7.unpinned, T.keep _ _ _ st5 fun b hb o e => (I7.pin (b, o) (List.mem_append_right _ (List.mem_append_right _ (mem_pinsAt hb e)))).1, fun b hb => ?_, w7⟩
      obtain ⟨o, e, d⟩ := T.obj _ _ st5 b hb
      exact (I7.pin (b, o) (List.mem_append_right _ (List.mem_append_right _ (mem_pinsAt hb e)))).2.1
    cases f with
    | next => obtain ⟨σ7, H7, I7, n7⟩ := q7; exact again I7 n7
    | cont => obtain ⟨σ7, H7, I7, n7⟩ := q7; exact again I7 n7
    | brk => obtain ⟨σ7, H7, I7, q7⟩ := q7; exact ⟨σ7, H7, I7.unpinned, q7⟩
    | ret v => obtain ⟨x7, σ7, H7, I7, r7, q7⟩ := q7; exact ⟨x7, σ7, H7, I7.unpinned, r7, q7⟩
end
/-! ### the forms one uses -/
theorem for_list {K : PySem.W.Frag} {a : Addr} {xs : List V} {g : TG} {tb : TS} {D : Ends} {σ : St} {H : Hp} (Pv : Nat → St → Hp → Prop) (h0 : Pv 0 σ H) (hl : ∀ i σ H, i ≤ xs.length → Pv i σ H → SqL K H a xs)
    (hs : ∀ i x σ H, xs[i]? = some x → Pv i σ H → g x σ H fun σ2 H2 => tb { D with nx := Pv (i + 1), ct := Pv (i + 1), bk := D.nx } σ2 H2) (hd : ∀ σ H, Pv xs.length σ H → D.nx σ H) :
    ∃ W : Nat → Nat → St → Hp → Prop, (∃ m, W 0 m σ H) ∧ ∀ i m σ H, W i m σ H →
      ((Itl K a).stop i H ∧ D.nx σ H) ∨ ((Itl K a).go i H ∧ ∃ N : St → Hp → Prop, (∀ σ' H', N σ' H' → ∃ m', m' < m ∧ W (i + 1) m' σ' H') ∧ ∀ x H', (Itl K a).yld i H x H' → g x σ H' fun σ2 H2 => tb { D with nx := N, ct := N, bk := D.nx } σ2 H2) := by
  refine ⟨fun i m σ H => m = xs.length - i ∧ i ≤ xs.length ∧ Pv i σ H, ⟨xs.length, by simp, Nat.zero_le _, h0⟩, ?_⟩
  rintro i m σ H ⟨rfl, hi, p⟩
  have q := hl i σ H hi p
  by_cases hlt : i < xs.length
  · refine .inr ⟨⟨xs, xs[i], q, by simp [hlt]⟩, Pv (i + 1), fun σ' H' p' => ⟨xs.length - (i + 1), by omega, rfl, hlt, p'⟩, fun x H' y => ?_⟩
    obtain ⟨e, y⟩ := y
    subst e
    exact hs i x σ _ (y xs q) p
  · have e : i = xs.length := by omega
    subst e
    exact .inl ⟨⟨xs, q, Nat.le_refl _⟩, hd σ H p⟩
end L2
namespace L2
open PySem PySem.Spec PyProof.Rows
noncomputable abbrev R2 := V → V → Hp → VK → Prop
noncomputable def OpR (X : Cx) (f : Value → Value → Sem Value) (r : R2) : Prop :=
  ∀ (pins : List (Addr × Obj)) (s : Shared) (σ : St) (H : Hp) (x y : V) (v u : Value) (Q : VK), Inv X pins σ H s → RelV x v → RelV y u → r x y H Q →
    wpAny (model X.prog X.w) X.A (f v u) (EP X pins σ Q) X.xe s
noncomputable def CallR (X : Cx) (f : Value) (r : List V → Hp → VK → Prop) : Prop :=
  ∀ (pins : List (Addr × Obj)) (s : Shared) (σ : St) (H : Hp) (xs : List V) (us : List Value) (Q : VK), Inv X pins σ H s → Vals xs us → r xs H Q →
    wpAny (model X.prog X.w) X.A (call f us) (EP X pins σ Q) X.xe s
noncomputable def tOp (r : R2) (ta tb : TE) : TE := fun σ H Q => ta σ H fun x H1 => tb σ H1 fun y H2 => r x y H2 Q
noncomputable def rI (C : Int → Int → Prop) (g : Int → Int → V) : R2 := fun x y H Q => ∃ i j, x = .int i ∧ y = .int j ∧ C i j ∧ Q (g i j) H
noncomputable def rI0 (g : Int → Int → V) : R2 := fun x y H Q => ∃ i j, x = .int i ∧ y = .int j ∧ Q (g i j) H
section
variable {X : Cx} {a b c : Expr} {ta tb tc : TE} {pos : Pos}
theorem binT (ha : PE X a ta) (hb : PE X b tb) {pins : List (Addr × Obj)} {s : Shared} {σ : St} {H : Hp} {R : V → V → Hp → Prop} (I : Inv X pins σ H s)
    (h : ta σ H fun x H1 => tb σ H1 fun y H2 => R x y H2) {Q : Value → Shared → Prop} {f : Value → Value → Sem Value}
    (hf : ∀ v u s2 x y H2, Inv X pins σ H2 s2 → RelV x v → RelV y u → R x y H2 → wpAny (model X.prog X.w) X.A (f v u) Q X.xe s2) :
    wpAny (model X.prog X.w) X.A (eval a X.env) (fun v s₁ => wpAny (model X.prog X.w) X.A (eval b X.env) (fun u s₂ => wpAny (model X.prog X.w) X.A (f v u) Q X.xe s₂) X.xe s₁) X.xe s := by
  refine thn (ha pins s σ H _ I h) fun v s1 ⟨x, H1, I1, r1, q1⟩ => ?_
  refine thn (hb pins s1 σ H1 _ I1 q1) fun u s2 ⟨y, H2, I2, r2, q2⟩ => ?_
  exact hf v u s2 x y H2 I2 r1 r2 q2

theorem pe_op {op : Operator} {r : R2} (ho : OpR X (binaryOp op) r) (ha : PE X a ta) (hb : PE X b tb) : PE X (.BinOp a op b pos) (tOp r ta tb) := by
  intro pins s σ H Q I h
  exact wpAny_BinOp (binT ha hb I h fun v u s2 x y H2 I2 rx ry q => ho pins s2 σ H2 x y v u Q I2 rx ry q)
/-! ### ints -/
theorem opI {f : Value → Value → Sem Value} {C : Int → Int → Prop} {g : Int → Int → Int}
    (rule : ∀ (i j : Int) (t u : Tok) (s : Shared) (Q : Value → Shared → Prop) (E : Value → Shared → Prop), C i j → Q (.int (g i j) s.toks) { s with toks := s.toks + 1 } → wpAny (model X.prog X.w) X.A (f (.int i t) (.int j u)) Q E s) :
    OpR X f (rI C fun i j => .int (g i j)) := by
  intro pins s σ H x y v u Q I rx ry h
  obtain ⟨i, j, rfl, rfl, hc, q⟩ := h
  obtain ⟨t, rfl⟩ := rx
  obtain ⟨t', rfl⟩ := ry
  exact rule i j t t' s _ _ hc ⟨.int (g i j), H, I.tok _, ⟨_, rfl⟩, q⟩
theorem opI0 {f : Value → Value → Sem Value} {g : Int → Int → Int}
    (rule : ∀ (i j : Int) (t u : Tok) (s : Shared) (Q : Value → Shared → Prop) (E : Value → Shared → Prop), Q (.int (g i j) s.toks) { s with toks := s.toks + 1 } → wpAny (model X.prog X.w) X.A (f (.int i t) (.int j u)) Q E s) :
    OpR X f (rI0 fun i j => .int (g i j)) := by
  intro pins s σ H x y v u Q I rx ry h
  obtain ⟨i, j, rfl, rfl, q⟩ := h
  obtain ⟨t, rfl⟩ := rx
  obtain ⟨t', rfl⟩ := ry
  exact rule i j t t' s _ _ ⟨.int (g i j), H, I.tok _, ⟨_, rfl⟩, q⟩
theorem opB0 {f : Value → Value → Sem Value} {g : Int → Int → Bool}
    (rule : ∀ (i j : Int) (t u : Tok) (s : Shared) (Q : Value → Shared → Prop) (E : Value → Shared → Prop), Q (.bool (g i j)) s → wpAny (model X.prog X.w) X.A (f (.int i t) (.int j u)) Q E s) :
    OpR X f (rI0 fun i j => .bl (g i j)) := by
  intro pins s σ H x y v u Q I rx ry h
  obtain ⟨i, j, rfl, rfl, q⟩ := h
  obtain ⟨t, rfl⟩ := rx
  obtain ⟨t', rfl⟩ := ry
  exact rule i j t t' s _ _ ⟨.bl (g i j), H, I, rfl, q⟩

noncomputable def CDiv (i j : Int) : Prop := 0 < j ∧ j < 1073741824
noncomputable def CMul (i j : Int) : Prop := (-(2 ^ 64) < i ∧ i < 2 ^ 64) ∨ (-(2 ^ 64) < j ∧ j < 2 ^ 64)
theorem CMul.ok {i j : Int} (h : CMul i j) : IntMulOk i j := by
  rcases h with ⟨h1, h2⟩ | ⟨h1, h2⟩
  · exact .of_left (intBits_le_64 h1 h2)
  · exact .of_right (intBits_le_64 h1 h2)
theorem op_add : OpR X (binaryOp .Add) (rI0 fun i j => .int (i + j)) := opI0 fun _ _ _ _ _ _ _ q => add_int q
theorem op_sub : OpR X (binaryOp .Sub) (rI0 fun i j => .int (i - j)) := opI0 fun _ _ _ _ _ _ _ q => sub_int q
theorem op_mul : OpR X (binaryOp .Mult) (rI CMul fun i j => .int (i * j)) := opI fun _ _ _ _ _ _ _ hc q => mul_int q hc.ok
theorem op_fdiv : OpR X (binaryOp .FloorDiv) (rI CDiv fun i j => .int (i / j)) := opI fun i j _ _ _ _ _ hc q => by
  have h1 : (0 : Int) < j := hc.1
  have h2 : j < 1073741824 := hc.2
  exact floordiv_int (by omega) (by rw [Int.fdiv_eq_ediv_of_nonneg i (by omega)]; exact q) (.inl (PyProof.noPylong_small (by omega)))
theorem op_mod : OpR X (binaryOp .Mod) (rI (fun _ j => 0 < j) fun i j => .int (i % j)) := opI fun i j _ _ _ _ _ hc q => by
  have h1 : (0 : Int) < j := hc
  exact mod_int' (by omega) (by rw [Int.fmod_eq_emod_of_nonneg i (by omega)]; exact q)
/-! ### bools among ints: n += (a < b) -/
end
/-! ### comparisons -/
noncomputable def scal : V → V → Bool
  | .non, .non => true | .non, .int _ => true | .int _, .non => true | .non, .bl _ => true | .bl _, .non => true | .non, .str _ => true | .str _, .non => true
  | .int _, .int _ => true | .bl _, .bl _ => true | .str _, .str _ => true | .byt _, .byt _ => true
  | .int _, .str _ => true | .str _, .int _ => true | .bl _, .str _ => true | .str _, .bl _ => true
  | _, _ => false
noncomputable def rEq : R2 := fun x y H Q => scal x y = true ∧ Q (.bl (decide (x = y))) H
noncomputable def rNe : R2 := fun x y H Q => scal x y = true ∧ Q (.bl (!decide (x = y))) H

theorem dec_int {i j : Int} : decide (V.int i = V.int j) = (i == j) := by
  rw [Bool.eq_iff_iff]
  simp
theorem dec_bl {i j : Bool} : decide (V.bl i = V.bl j) = (i == j) := by
  rw [Bool.eq_iff_iff]
  simp
theorem dec_str {i j : Str} : decide (V.str i = V.str j) = (i == j) := by
  rw [Bool.eq_iff_iff]
  simp
theorem dec_byt {i j : Array UInt8} : decide (V.byt i = V.byt j) = (i.toList == j.toList) := by
  rw [Bool.eq_iff_iff]
  cases i
  cases j
  simp

section
variable {X : Cx} {a b c : Expr} {ta tb tc : TE} {pos : Pos}
theorem fin_bl {pins : List (Addr × Obj)} {σ : St} {H : Hp} {s : Shared} {Q : VK} {k k' : Bool} (I : Inv X pins σ H s) (q : Q (.bl k) H) (e : k = k') : EP X pins σ Q (.bool k') s := by
  subst e
  exact ⟨.bl k, H, I, rfl, q⟩
theorem op_eq : OpR X (compareOp .Eq) rEq := by
  intro pins s σ H x y v u Q I rx ry h
  obtain ⟨hs, q⟩ := h
  cases x with
  | non =>
    cases rx
    cases y with
    | non => cases ry; exact PySem.EqNone.eq_none_none (fin_bl I q (by simp))
    | bl j => cases ry; exact PySem.EqNone.eq_none_bool (fin_bl I q (by simp))
    | int j => obtain ⟨t', rfl⟩ := ry; exact PySem.EqNone.eq_none_int (fin_bl I q (by simp))
    | str j => obtain ⟨t', rfl⟩ := ry; exact PySem.EqNone.eq_none_str (fin_bl I q (by simp))
    | _ => exact absurd (show false = true from hs) Bool.false_ne_true
  | bl i =>
    cases rx
    cases y with
    | non => cases ry; exact PySem.EqNone.eq_bool_none (fin_bl I q (by simp))
    | bl j => cases ry; exact eq_bool (fin_bl I q dec_bl)
    | str j => obtain ⟨t', rfl⟩ := ry; exact PySem.EqMixed.eq_bool_str (fin_bl I q (by simp))
    | _ => exact absurd (show false = true from hs) Bool.false_ne_true
  | int i =>
    obtain ⟨t, rfl⟩ := rx
    cases y with
    | non => cases ry; exact PySem.EqNone.eq_int_none (fin_bl I q (by simp))
    | int j => obtain ⟨t', rfl⟩ := ry; exact eq_int (fin_bl I q dec_int)
    | str j => obtain ⟨t', rfl⟩ := ry; exact PySem.EqMixed.eq_int_str (fin_bl I q (by simp))
    | _ => exact absurd (show false = true from hs) Bool.false_ne_true
  | str i =>
    obtain ⟨t, rfl⟩ := rx
    cases y with
    | non => cases ry; exact PySem.EqNone.eq_str_none (fin_bl I q (by simp))
    | bl j => cases ry; exact PySem.EqMixed.eq_str_bool (fin_bl I q (by simp))
    | int j => obtain ⟨t', rfl⟩ := ry; exact PySem.EqMixed.eq_str_int (fin_bl I q (by simp))
    | str j => obtain ⟨t', rfl⟩ := ry; exact eq_str (fin_bl I q dec_str)
    | _ => exact absurd (show false = true from hs) Bool.false_ne_true
  | byt i =>
    obtain ⟨t, rfl⟩ := rx
    cases y with
    | byt j => obtain ⟨t', rfl⟩ := ry; exact PySem.W.eq_bytes (fin_bl I q dec_byt)
    | _ => exact absurd (show false = true from hs) Bool.false_ne_true
  | _ => cases y <;> exact absurd (show false = true from hs) Bool.false_ne_true
theorem op_ne : OpR X (compareOp .NotEq) rNe := by
  intro pins s σ H x y v u Q I rx ry h
  obtain ⟨hs, q⟩ := h
  cases x with
  | non =>
    cases rx
    cases y with
    | non => cases ry; exact PySem.EqNone.ne_none_none (fin_bl I q (by simp))
    | bl j => cases ry; exact PySem.EqNone.ne_none_bool (fin_bl I q (by simp))
    | int j => obtain ⟨t', rfl⟩ := ry; exact PySem.EqNone.ne_none_int (fin_bl I q (by simp))
    | str j => obtain ⟨t', rfl⟩ := ry; exact PySem.EqNone.ne_none_str (fin_bl I q (by simp))
    | _ => exact absurd (show false = true from hs) Bool.false_ne_true
  | bl i =>
    cases rx
    cases y with
    | non => cases ry; exact PySem.EqNone.ne_bool_none (fin_bl I q (by simp))
    | bl j => cases ry; exact ne_bool (fin_bl I q (congrArg not dec_bl))
    | str j => obtain ⟨t', rfl⟩ := ry; exact PySem.EqMixed.ne_bool_str (fin_bl I q (by simp))
    | _ => exact absurd (show false = true from hs) Bool.false_ne_true
  | int i =>
    obtain ⟨t, rfl⟩ := rx
    cases y with
    | non => cases ry; exact PySem.EqNone.ne_int_none (fin_bl I q (by simp))
    | int j => obtain ⟨t', rfl⟩ := ry; exact ne_int (fin_bl I q (congrArg not dec_int))
    | str j => obtain ⟨t', rfl⟩ := ry; exact PySem.EqMixed.ne_int_str (fin_bl I q (by simp))
    | _ => exact absurd (show false = true from hs) Bool.false_ne_true
  | str i =>
    obtain ⟨t, rfl⟩ := rx
    cases y with
    | non => cases ry; exact PySem.EqNone.ne_str_none (fin_bl I q (by simp))
    | bl j => cases ry; exact PySem.EqMixed.ne_str_bool (fin_bl I q (by simp))
    | int j => obtain ⟨t', rfl⟩ := ry; exact PySem.EqMixed.ne_str_int (fin_bl I q (by simp))
    | str j => obtain ⟨t', rfl⟩ := ry; exact ne_str (fin_bl I q (congrArg not dec_str))
    | _ => exact absurd (show false = true from hs) Bool.false_ne_true
  | byt i =>
    obtain ⟨t, rfl⟩ := rx
    cases y with
    | byt j => obtain ⟨t', rfl⟩ := ry; exact PySem.W.ne_bytes (fin_bl I q (congrArg not dec_byt))
    | _ => exact absurd (show false = true from hs) Bool.false_ne_true
  | _ => cases y <;> exact absurd (show false = true from hs) Bool.false_ne_true

theorem op_le : OpR X (compareOp .LtE) (rI0 fun i j => .bl (decide (i ≤ j))) := opB0 fun _ _ _ _ _ _ _ q => le_int q
theorem op_gt : OpR X (compareOp .Gt) (rI0 fun i j => .bl (decide (j < i))) := opB0 fun _ _ _ _ _ _ _ q => gt_int q
theorem op_in_str : OpR X (compareOp .In) (fun x y H Q => ∃ i j, x = .str i ∧ y = .str j ∧ Q (.bl (!(Builtin.Str.occurrences j i 0 j.length 1).isEmpty)) H) := by
  intro pins s σ H x y v u Q I rx ry h
  obtain ⟨i, j, rfl, rfl, q⟩ := h
  obtain ⟨t, rfl⟩ := rx
  obtain ⟨t', rfl⟩ := ry
  exact in_str (fin_bl I q rfl)

theorem nomark (b : Expr) {op : CmpOp} (h : op ≠ .In := by decide) (h2 : op ≠ .NotIn := by decide) : behindInMarks op b = false := by
  have e1 : (op == CmpOp.In) = false := by cases op <;> first | rfl | exact absurd rfl h
  have e2 : (op == CmpOp.NotIn) = false := by cases op <;> first | rfl | exact absurd rfl h2
  cases b <;> simp [behindInMarks, e1, e2]
theorem pe_cmpR {op : CmpOp} {r : R2} (ho : OpR X (compareOp op) r) (ha : PE X a ta) (hb : PE X b tb) (hm : behindInMarks op b = false) : PE X (.Compare a [op] [b] pos) (tOp r ta tb) := by
  intro pins s σ H Q I h
  exact wpAny_Compare1 (binT ha hb I h fun v u s2 x y H2 I2 rx ry q => ho pins s2 σ H2 x y v u Q I2 rx ry q) hm
noncomputable def tTest (t : TE) : TT := fun σ H Q => t σ H fun x H' => ∃ k, x = .bl k ∧ Q k H'
theorem pt_cmpR {op : CmpOp} {r : R2} (ho : OpR X (compareOp op) r) (ha : PE X a ta) (hb : PE X b tb) (hm : behindInMarks op b = false) : PT X (.Compare a [op] [b] pos) (tTest (tOp r ta tb)) := by
  intro pins s σ H Q I h
  refine wpAny_isTrue_Compare1 (thn (ha pins s σ H _ I h) fun v s1 ⟨x, H1, I1, r1, q1⟩ => thn (hb pins s1 σ H1 _ I1 q1) fun u s2 ⟨y, H2, I2, r2, q2⟩ =>
    thn (ho pins s2 σ H2 x y v u _ I2 r1 r2 q2) fun c s3 ⟨z, H3, I3, r3, k, e, q3⟩ => ?_) hm
  subst e
  cases r3
  exact wpAny_truthy_bool ⟨H3, I3, q3⟩
noncomputable def tChain (r r' : R2) (ta tb tc : TE) : TE := fun σ H Q => ta σ H fun x H1 => tb σ H1 fun y H2 => r x y H2 fun z H3 => ∃ k, z = .bl k ∧
  (if k = true then tc σ H3 fun w' H4 => r' y w' H4 Q else Q (.bl false) H3)
theorem pe_chain {op op' : CmpOp} {r r' : R2} (ho : OpR X (compareOp op) r) (ho' : OpR X (compareOp op') r') (ha : PE X a ta) (hb : PE X b tb) (hc : PE X c tc)
    (hm : lastMarks [op, op'] [b, c] = false := by with_unfolding_all rfl) : PE X (.Compare a [op, op'] [b, c] pos) (tChain r r' ta tb tc) := by
  intro pins s σ H Q I h
  refine Compare_chain (thn (ha pins s σ H _ I h) fun v s1 ⟨x, H1, I1, r1, q1⟩ => chain_link (thn (hb pins s1 σ H1 _ I1 q1) fun u s2 ⟨y, H2, I2, r2, q2⟩ =>
    thn (ho pins s2 σ H2 x y v u _ I2 r1 r2 q2) fun d s3 ⟨z, H3, I3, r3, k, e, q3⟩ => ?_)) hm
  subst e
  cases r3
  refine wpAny_truthy_bool ?_
  cases k with
  | false => exact ite_ff ⟨.bl false, H3, I3, rfl, q3⟩
  | true => exact ite_tt (chain_last (thn (hc pins s3 σ H3 _ I3 q3) fun w' s4 ⟨z', H4, I4, r4, q4⟩ => ho' pins s4 σ H4 y z' u w' Q I4 r2 r4 q4))
/-! ### truth -/
theorem line63 : (sizeLine : Nat) < 2 ^ 63 := by rw [sizeLine_eq]; decide
/-! ### strs and bytes -/
/-! ### scalar builtins, by CallR -/
theorem vals1 {x : V} {us : List Value} (r : Vals [x] us) : ∃ u, us = [u] ∧ RelV x u := by
  cases r with
  | cons r1 r2 => cases r2; exact ⟨_, rfl, r1⟩
theorem call_int1 : CallR X (.type "int") (fun xs H Q => (∃ i, xs = [.int i] ∧ Q (.int i) H) ∨ ∃ k, xs = [.bl k] ∧ Q (.int (if k then 1 else 0)) H) := by
  intro pins s σ H xs us Q I r h
  rcases h with ⟨i, rfl, q⟩ | ⟨k, rfl, q⟩
  · obtain ⟨u, rfl, t, rfl⟩ := vals1 r
    exact call_int_int ⟨.int i, H, I, ⟨_, rfl⟩, q⟩
  · obtain ⟨u, rfl, r1⟩ := vals1 r
    cases r1
    exact call_int_bool ⟨.int (if k then 1 else 0), H, I.tok _, ⟨_, rfl⟩, q⟩
end
end L2
namespace L2
open PySem PySem.Spec PyProof.Rows
/-! ### an instance, its attributes a map -/
structure ObjM (h : Heap) (x dx C : Addr) (mA : Str → Option Value) : Prop where
  obj : h.get? x = some (PySem.W.instObj C dx)
  ns : h.Ns1 dx mA
  ne : dx ≠ x

theorem lookIn_ns {h : Heap} {dx : Addr} {mA : Str → Option Value} (n : h.Ns1 dx mA) : ∃ od, h.get? dx = some od ∧ ∀ name, PySem.W.lookIn name od = some (mA name) := by
  obtain ⟨o, es, ep, ho, hd, hk, _, hm⟩ := n
  refine ⟨o, ho, fun name => ?_⟩
  have e := hm name
  unfold nsFind findBy at e
  rw [← Array.find?_toList] at e
  unfold PySem.W.lookIn
  rw [hd]
  dsimp only
  split
  · rename_i y q
    rw [q] at e
    exact congrArg some e
  · rename_i q
    rw [q] at e
    have a : es.toList.any (·.refKey) = false := by
      rw [List.any_eq_false]
      intro y hy
      obtain ⟨z, t, hkey⟩ := hk y (Array.mem_toList_iff.mp hy)
      simp [DictEntry.refKey, hkey]
    have a' : ¬ es.toList.any (·.refKey) = true := by rw [a]; exact Bool.false_ne_true
    rw [if_neg a']
    exact congrArg some e

theorem ObjM.look {h : Heap} {x dx C : Addr} {mA : Str → Option Value} (I : ObjM h x dx C mA) : ∃ od, PySem.W.InstAt h x (PySem.W.instObj C dx) C (some od) ∧ ∀ name, PySem.W.lookIn name od = some (mA name) :=
  let ⟨od, ho, hl⟩ := lookIn_ns I.ns
  ⟨od, ⟨I.obj, rfl, rfl, ho⟩, hl⟩

section
variable {prog : Program} {w : World} {A : Around} {E : Value → Shared → Prop} {s : Shared} {K : PySem.W.Frag} {x dx C f : Addr} {mA : Str → Option Value} {name : Str} {v : Value}
theorem get_map {expr : Bool} {Q : Value → Shared → Prop} (X : K.In s.heap) (I : ObjM s.heap x dx C mA) (hg : PySem.W.plainGet K C name = true) (hh : PySem.W.hasDictIn K C = true)
    (ha : PySem.W.findIn K (.ref C) name = some none) (hv : mA name = some v) (hv' : PySem.W.handedIn v = true) (h : Q v { s with toks := s.toks + 1 }) :
    wpAny (model prog w) A (getAttr (.ref x) name expr) Q E s := by
  obtain ⟨od, J, hl⟩ := I.look
  exact PySem.W.get_value X J (PySem.W.plainGet_of hg).1 (PySem.W.findObj_own hh ha rfl (by rw [hl, hv])) hv' h

theorem set_map {ns : List Str} {Q : Unit → Shared → Prop} (X : K.In s.heap) (I : ObjM s.heap x dx C mA)
    (hs : PySem.W.findIn K (.ref C) "__setattr__" = some (some (.builtin "object.__setattr__"))) (hp : PySem.W.plainOver K C = true) (ht : PySem.W.takerIn K C name = some none) (hh : PySem.W.hasDictIn K C = true)
    (hw : PySem.Within mA ns) (hsz : ns.length ≤ sizeLine)
    (h : ∀ h', ObjM h' x dx C (fun y => if y = name then some v else mA y) → Heap.SameBut dx s.heap h' → Q () { s with heap := h', toks := s.toks + 2 }) :
    wpAny (model prog w) A (setAttr (.ref x) name v) Q E s := by
  obtain ⟨od, J, hl⟩ := I.look
  refine PySem.W.set_plain X J hs (PySem.W.osa_open (s := { s with toks := s.toks + 1 }) (r := none) X J hp ht fun b => ?_)
  obtain ⟨cd, hc, hd'⟩ := PySem.W.any_some hh
  have hx : s.heap.get? x = some ⟨.ref C, some dx, .plain, #[]⟩ := I.obj
  refine wpAny_bind (wpAny_pure (wpAny_bind (wpAny_bind (wpAny_loadPart hx (wpAny_bind (PySem.W.Looks.here (s := { s with toks := s.toks + 1 }) (PySem.W.looks_clsIn X hc) ?_))))))
  rw [hd']
  refine wpAny_pure (a := some dx) (wpAny_bind (wpAny_pure (wpAny_bind ?_)))
  refine wpAny_nsSet1 (s := { s with toks := s.toks + 1 }) I.ns fun h' hn2 hs2 => ?_
  obtain ⟨oD, esD, epD, hoD, hdD, hcD⟩ := hn2.count (PySem.Within.cons name v hw)
  refine wpAny_bind (wpAny_lookBehind hoD (by rw [hdD]; exact pastItsLine_dict (Nat.le_trans hcD (by rw [List.length_cons]; omega))) ?_)
  exact wpAny_pure (h _ ⟨(hs2.2 _ (Ne.symm I.ne)).trans I.obj, hn2, I.ne⟩ hs2)

theorem make_map {R : Result → Shared → Prop} {vs : List Value} {kw : List (Str × Value)} (X : K.In s.heap) (hm : PySem.W.makesIn K C = true)
    (hi : PySem.W.findIn K (.ref C) "__init__" = some (some (.ref f))) (hf : PySem.W.typeIn K (.ref f) = some (.type "function"))
    (h : codeAny (model prog w) (A.under (.builtin "type.__call__" ⟨.ref C :: vs, kw⟩)) (.call (.ref f) ⟨.ref (s.heap.objs.size + 1) :: vs, kw⟩) (PySem.W.InitBack (s.heap.objs.size + 1) R)
      { s with heap := (s.heap.push PySem.W.emptyDict).push (PySem.W.instObj C s.heap.objs.size) }) :
    codeAny (model prog w) A (.call (.ref C) ⟨vs, kw⟩) R s := by
  obtain ⟨hh, g, d, t, os⟩ := s
  exact PySem.W.make_core (PySem.W.makes_of X hm) (PySem.W.looks_findIn X hi) (fun self => PySem.W.bind_fn X self hf) (.inl rfl) h
end
/-! ### the attributes as a list of pairs -/
noncomputable def putF (f : Str) (v : V) : List (Str × V) → List (Str × V)
  | [] => [(f, v)]
  | (g, x) :: r => if g = f then (g, v) :: r else (g, x) :: putF f v r
theorem lookup_putF (f g : Str) (v : V) : ∀ fs : List (Str × V), (putF f v fs).lookup g = if g = f then some v else fs.lookup g
  | [] => by
    show List.lookup g [(f, v)] = _
    by_cases h : g = f
    · have hb : (g == f) = true := beq_iff_eq.mpr h
      simp only [List.lookup, hb, if_pos h]
    · have hb : (g == f) = false := beq_eq_false_iff_ne.mpr h
      simp only [List.lookup, hb, if_neg h]
  | (k, x) :: r => by
    have ih := lookup_putF f g v r
    rw [show putF f v ((k, x) :: r) = (if k = f then (k, v) :: r else (k, x) :: putF f v r) from rfl]
    by_cases hk : k = f
    · rw [if_pos hk]
      by_cases h : g = k
      · have hb : (g == k) = true := beq_iff_eq.mpr h
        simp only [List.lookup, hb, if_pos (h.trans hk)]
      · have hb : (g == k) = false := beq_eq_false_iff_ne.mpr h
        simp only [List.lookup, hb, if_neg (fun e : g = f => h (e.trans hk.symm))]
    · rw [if_neg hk]
      by_cases h : g = k
      · have hb : (g == k) = true := beq_iff_eq.mpr h
        simp only [List.lookup, hb, if_neg (fun e : g = f => hk (h.symm.trans e))]
      · have hb : (g == k) = false := beq_eq_false_iff_ne.mpr h
        simp only [List.lookup, hb]
        exact ih
theorem keys_putF (f : Str) (v : V) : ∀ fs : List (Str × V), f ∈ (putF f v fs).map (·.1) ∧ ∀ g, g ∈ fs.map (·.1) → g ∈ (putF f v fs).map (·.1)
  | [] => ⟨by simp [putF], fun g h => by simp at h⟩
  | (k, x) :: r => by
    obtain ⟨i1, i2⟩ := keys_putF f v r
    rw [show putF f v ((k, x) :: r) = (if k = f then (k, v) :: r else (k, x) :: putF f v r) from rfl]
    by_cases hk : k = f
    · rw [if_pos hk]
      subst hk
      exact ⟨by simp, fun g h => by simpa using h⟩
    · rw [if_neg hk]
      refine ⟨?_, fun g h => ?_⟩
      · rw [List.map_cons]
        exact List.mem_cons_of_mem _ i1
      · rw [List.map_cons] at h ⊢
        rcases List.mem_cons.mp h with e | e
        · exact List.mem_cons.mpr (.inl e)
        · exact List.mem_cons_of_mem _ (i2 g e)
theorem length_putF (f : Str) (v : V) : ∀ fs : List (Str × V), (putF f v fs).length ≤ fs.length + 1
  | [] => by simp [putF]
  | (k, x) :: r => by
    have ih := length_putF f v r
    rw [show putF f v ((k, x) :: r) = (if k = f then (k, v) :: r else (k, x) :: putF f v r) from rfl]
    by_cases hk : k = f
    · rw [if_pos hk, List.length_cons, List.length_cons]; omega
    · rw [if_neg hk, List.length_cons, List.length_cons]; omega

theorem RelO.some_of {v : V} {o : Option Value} (r : RelO (some v) o) : ∃ u, o = some u ∧ RelV v u := by
  cases o with
  | none => exact (show False from r).elim
  | some u => exact ⟨u, rfl, r⟩
theorem handed_of {v : V} {u : Value} (r : RelV v u) : PySem.W.handedIn u = true := by
  cases v with
  | non => cases (show u = Value.none from r); rfl
  | bl b => cases (show u = Value.bool b from r); rfl
  | int i => obtain ⟨t, e⟩ := (show ∃ t, u = Value.int i t from r); cases e; rfl
  | str x => obtain ⟨t, e⟩ := (show ∃ t, u = Value.str x t from r); cases e; rfl
  | byt b => obtain ⟨t, e⟩ := (show ∃ t, u = Value.bytes b t from r); cases e; rfl
  | flt b => obtain ⟨t, e⟩ := (show ∃ t, u = Value.float b t from r); cases e; rfl
  | ref a => cases (show u = Value.ref a from r); rfl
  | ty n => cases (show u = Value.type n from r); rfl

section
variable {P : Program} {w : World} {H H' : Hp} {h h' : Heap} {a C dx : Addr} {fs fs' : List (Str × V)}
theorem ins_get (hok : HOk P w H h) (e : H a = some (.ins C dx fs)) : ∃ mA, ObjM h a dx C mA ∧ (∀ f, RelO (fs.lookup f) (mA f)) ∧ PySem.Within mA (fs.map (·.1)) ∧ fs.length ≤ 1000 ∧ H dx = some (.own a) := by
  obtain ⟨d, z, ne, ob, mA, n, r, q⟩ := (show ObjOk P w H h a (.ins C dx fs) from hok a _ e)
  exact ⟨mA, ⟨ob, n, ne⟩, r, q, z, d⟩
end
/-! ### what of the text a class must have -/
structure Cls (K : PySem.W.Frag) (C : Addr) : Prop where
  pg : PySem.W.plainGet K C Str.empty = true
  hd : PySem.W.hasDictIn K C = true
  po : PySem.W.plainOver K C = true
  sa : PySem.W.findIn K (.ref C) "__setattr__" = some (some (.builtin "object.__setattr__"))
theorem Cls.get {K : PySem.W.Frag} {C : Addr} (c : Cls K C) (f : Str) : PySem.W.plainGet K C f = true := c.pg
noncomputable def NoAttr (K : PySem.W.Frag) (C : Addr) (f : Str) : Prop := PySem.W.findIn K (.ref C) f = some none
theorem NoAttr.taker {K : PySem.W.Frag} {C : Addr} {f : Str} (n : NoAttr K C f) : PySem.W.takerIn K C f = some none := by
  unfold PySem.W.takerIn
  rw [show PySem.W.findIn K (.ref C) f = some none from n]
  rfl
section
variable {X : Cx} {pins : List (Addr × Obj)} {σ : St} {H : Hp} {s : Shared} {a C dx : Addr} {fs : List (Str × V)} {f : Str} {v : V} {A : Around} {E : Value → Shared → Prop}
theorem getattr_ok {b : Bool} {Q : Value → Shared → Prop} (I : Inv X pins σ H s) (e : H a = some (.ins C dx fs)) (c : Cls X.K C) (n : NoAttr X.K C f) (l : fs.lookup f = some v)
    (h : ∀ u s', Inv X pins σ H s' → RelV v u → Q u s') : wpAny (model X.prog X.w) A (getAttr (.ref a) f b) Q E s := by
  obtain ⟨mA, O, r, _, _, _⟩ := ins_get I.hok e
  obtain ⟨u, hu, ru⟩ := RelO.some_of (v := v) (o := mA f) (by rw [← l]; exact r f)
  exact get_map I.kIn O (c.get f) c.hd n hu (handed_of ru) (h u _ (I.tok _) ru)

theorem setattr_ok {y : V} {u : Value} {Q : Unit → Shared → Prop} (I : Inv X pins σ H s) (e : H a = some (.ins C dx fs)) (c : Cls X.K C) (n : NoAttr X.K C f) (hl : fs.length < 1000) (ry : RelV y u)
    (h : ∀ s', Inv X pins σ (upd H a (.ins C dx (putF f y fs))) s' → Q () s') : wpAny (model X.prog X.w) A (setAttr (.ref a) f u) Q E s := by
  obtain ⟨mA, O, r, wi, _, ho⟩ := ins_get I.hok e
  have hz : (fs.map (·.1)).length ≤ sizeLine := by rw [List.length_map, sizeLine_eq]; omega
  refine set_map I.kIn O c.sa c.po n.taker c.hd wi hz fun h' O' sb => h _ ?_
  have hd : ∃ o, h'.get? dx = some o := let ⟨o, _, _, e', _⟩ := O'.ns; ⟨o, e'⟩
  refine I.write (x := a) (e := dx) (by rw [e]; exact True.intro) (.inr ho) (fun b q hb z => (sb.2 b hb).trans z) hd ?_
  refine ⟨by rw [upd_ne O.ne]; exact ho, ?_, O.ne, O'.obj, _, O'.ns, fun g => ?_, fun g hg => ?_⟩
  · have := length_putF f y fs; omega
  · show RelO ((putF f y fs).lookup g) (if g = f then some u else mA g)
    rw [lookup_putF]
    by_cases q : g = f
    · rw [if_pos q, if_pos q]; exact ry
    · rw [if_neg q, if_neg q]; exact r g
  · by_cases q : g = f
    · rw [q]; exact (keys_putF f y fs).1
    · refine (keys_putF f y fs).2 g (wi g fun z => hg ?_)
      show (if g = f then some u else mA g) = none
      rw [if_neg q]; exact z

theorem Inv.made (I : Inv X pins σ H s) : Inv X pins σ (upd (upd H s.heap.objs.size (.own (s.heap.objs.size + 1))) (s.heap.objs.size + 1) (.ins C s.heap.objs.size []))
    { s with heap := (s.heap.push PySem.W.emptyDict).push (PySem.W.instObj C s.heap.objs.size) } := by
  have e1 : (s.heap.push PySem.W.emptyDict).get? s.heap.objs.size = some PySem.W.emptyDict := Heap.get?_push_size s.heap rfl
  have e2 : ((s.heap.push PySem.W.emptyDict).push (PySem.W.instObj C s.heap.objs.size)).get? (s.heap.objs.size + 1) = some (PySem.W.instObj C s.heap.objs.size) := by
    have := Heap.get?_push_size (s.heap.push PySem.W.emptyDict) (o := PySem.W.instObj C s.heap.objs.size) rfl
    rwa [Heap.size_push] at this
  have e3 : (s.heap.push PySem.W.emptyDict).Ns s.heap.objs.size (fun _ => none) := ⟨PySem.W.emptyDict, #[], _, e1, rfl, (fun e he => absurd he (by simp)), fun _ => rfl⟩
  have I1 := I.laid (a := s.heap.objs.size) (o := .own (s.heap.objs.size + 1)) (h' := s.heap.push PySem.W.emptyDict) (t' := s.toks) (fun b u q => Heap.get?_push_of_some _ q) (Nat.le_refl _) ⟨_, e1⟩
  refine I1.laid (a := s.heap.objs.size + 1) (o := .ins C s.heap.objs.size []) (t' := s.toks) (fun b u q => Heap.get?_push_of_some _ q) (Nat.le_of_eq (Heap.size_push _ _)) ?_
  have ne : s.heap.objs.size ≠ s.heap.objs.size + 1 := Nat.ne_of_lt (Nat.lt_succ_self _)
  refine ⟨by rw [upd_ne ne, upd_same], Nat.zero_le _, ne, e2, fun _ => none, (Heap.Ns1.of_empty e3).at fun o q => Heap.get?_push_of_some _ q, fun _ => True.intro, fun y hy => absurd rfl hy⟩

theorem attr_of {prog : Program} {w : World} {env : Env} {e : Expr} {f : Str} {pos : Pos} {s : Shared} {Q : Value → Shared → Prop} (hb : attributeBase e f env (eval e env) = eval e env)
    (h : wpAny (model prog w) A (eval e env) (fun o s₁ => wpAny (model prog w) A (getAttr o f true) Q E s₁) E s) : wpAny (model prog w) A (eval (.Attribute e f pos) env) Q E s :=
  Attribute_any_ h (by rw [arm_eval_Attribute, hb])
end
/-! ### readings and rules -/
noncomputable def tFld (K : PySem.W.Frag) (ta : TE) (f : Str) : TE := fun σ H Q => ta σ H fun x H1 => ∃ a C dx fs v, x = .ref a ∧ H1 a = some (.ins C dx fs) ∧ Cls K C ∧ NoAttr K C f ∧ fs.lookup f = some v ∧ Q v H1
noncomputable def sFld (K : PySem.W.Frag) (ta tv : TE) (f : Str) : TS := fun D σ H => tv σ H fun y H1 => ta σ H1 fun x H2 => ∃ a C dx fs, x = .ref a ∧ H2 a = some (.ins C dx fs) ∧ Cls K C ∧ NoAttr K C f ∧ fs.length < 1000 ∧
  D.nx σ (upd H2 a (.ins C dx (putF f y fs)))
section
variable {X : Cx} {o e value : Expr} {f : Str} {pos pos' tpos : Pos} {ta tv : TE}
theorem pe_fld (he : PE X e ta) (hb : attributeBase e f X.env (eval e X.env) = eval e X.env) : PE X (.Attribute e f pos) (tFld X.K ta f) := by
  intro pins s σ H Q I h
  refine attr_of hb (thn (he pins s σ H _ I h) fun u s1 ⟨x, H1, I1, rx, a, C, dx, fs, v, ex, ea, c, n, l, q⟩ => ?_)
  subst ex
  obtain rfl : u = Value.ref a := rx
  exact getattr_ok I1 ea c n l fun u' s2 I2 ru => ⟨v, H1, I2, ru, q⟩
theorem ps_fld (ha : PE X o ta) (hv : PE X value tv) (hs : swapsWith value (some (.Attribute o f pos')) pos.line X.env = pure false) : PS X (.Assign [.Attribute o f pos'] value pos) (sFld X.K ta tv f) := by
  intro pins s σ H D I h
  refine plainObj_wpAny_Assign_Attribute (thn (hv pins s σ H _ I h) fun u s1 ⟨y, H1, I1, ry, q⟩ => thn (ha pins s1 σ H1 _ I1 q) fun ov s2 ⟨x, H2, I2, rx, a, C, dx, fs, ex, ea, c, n, l, q2⟩ => ?_) hs
  subst ex
  obtain rfl : ov = Value.ref a := rx
  exact setattr_ok I2 ea c n l ry fun s3 I3 => ⟨σ, _, I3, q2⟩
end
/-! ### isinstance -/
section
variable {X : Cx} {pins : List (Addr × Obj)} {σ : St} {H : Hp} {s : Shared} {A : Around} {E : Value → Shared → Prop} {Q : Value → Shared → Prop} {c : Value} {b : Bool}
inductive TyOf (K : PySem.W.Frag) (H : Hp) : V → Value → Prop where
  | non : TyOf K H .non (.type "NoneType")
  | bl (x : Bool) : TyOf K H (.bl x) (.type "bool")
  | int (i : Int) : TyOf K H (.int i) (.type "int")
  | str (x : Str) : TyOf K H (.str x) (.type "str")
  | flt (x : UInt64) : TyOf K H (.flt x) (.type "float")
  | lst {a : Addr} {xs : List V} (e : H a = some (.lst xs)) : TyOf K H (.ref a) (.type "list")
  | frz {a : Addr} {o : Obj} {xs : List V} (e : H a = some (.frz o (.lst xs))) : TyOf K H (.ref a) (.type "list")
  | tup {a : Addr} {xs : List V} (e : H a = some (.tup xs)) : TyOf K H (.ref a) (.type "tuple")
  | dK {a : Addr} {kvs : List (Key × V)} (e : H a = some (.dK kvs)) : TyOf K H (.ref a) (.type "dict")
  | dT {a : Addr} {kvs : List (List Key × V)} (e : H a = some (.dT kvs)) : TyOf K H (.ref a) (.type "dict")
  | ins {a C dx : Addr} {fs : List (Str × V)} (e : H a = some (.ins C dx fs)) (cl : Cls K C) (ha : PySem.W.findIn K (.ref C) "__class__" = some (some (.builtin "object.__class__")))
      (hn : PySem.W.specialIn K (.builtin "object.__class__") "__get__" = some (some (.builtin "getset_descriptor.__get__"))) (htk : PySem.W.takesIn K (.builtin "object.__class__") = some true)
      (hm : PySem.W.mroIn K C (.type "object") = some true) : TyOf K H (.ref a) (.ref C)
theorem isinst_ok {x : V} {u t : Value} (I : Inv X pins σ H s) (rx : RelV x u) (ty : TyOf X.K H x t) (e : PySem.W.kitOne X.K t c = some b) (h : ∀ tk, Q (.bool b) { s with toks := tk }) :
    wpAny (model X.prog X.w) A (call (.builtin "isinstance") [u, c]) Q E s := by
  cases ty with
  | non => cases (show u = Value.none from rx); exact PySem.W.kia_one PySem.W.kitx_none I.kIn True.intro e (fun z => nomatch z) h
  | bl y => cases (show u = Value.bool y from rx); exact PySem.W.kia_one PySem.W.kitx_bool I.kIn True.intro e (fun z => nomatch z) h
  | int i => obtain ⟨t, q⟩ := (show ∃ t, u = Value.int i t from rx); cases q; exact PySem.W.kia_one PySem.W.kitx_int I.kIn True.intro e (fun z => nomatch z) h
  | str y => obtain ⟨t, q⟩ := (show ∃ t, u = Value.str y t from rx); cases q; exact PySem.W.kia_one PySem.W.kitx_str I.kIn True.intro e (fun z => nomatch z) h
  | flt y => obtain ⟨t, q⟩ := (show ∃ t, u = Value.float y t from rx); cases q; exact PySem.W.kia_one PySem.W.kitx_float I.kIn True.intro e (fun z => nomatch z) h
  | @lst a xs ea =>
    cases (show u = Value.ref a from rx)
    obtain ⟨_, _, n, _, h1⟩ := (show ObjOk X.prog X.w H s.heap a (.lst xs) from I.hok a _ ea)
    exact PySem.W.kia_one PySem.W.kitx_list I.kIn ⟨_, h1, rfl⟩ e (fun z => nomatch z) h
  | @frz a ob xs ea =>
    cases (show u = Value.ref a from rx)
    obtain ⟨_, _, _, n, _, h1⟩ := (show ObjOk X.prog X.w H s.heap a (.frz ob (.lst xs)) from I.hok a _ ea)
    exact PySem.W.kia_one PySem.W.kitx_list I.kIn ⟨_, h1, rfl⟩ e (fun z => nomatch z) h
  | @tup a xs ea =>
    cases (show u = Value.ref a from rx)
    obtain ⟨_, _, _, p⟩ := (show ObjOk X.prog X.w H s.heap a (.tup xs) from I.hok a _ ea)
    obtain ⟨o, h1, h2, _⟩ := p
    exact PySem.W.kia_one PySem.W.kitx_tuple I.kIn ⟨o, h1, h2⟩ e (fun z => nomatch z) h
  | @dK a kvs ea =>
    cases (show u = Value.ref a from rx)
    obtain ⟨_, _, vs, _, p⟩ := (show ObjOk X.prog X.w H s.heap a (.dK kvs) from I.hok a _ ea)
    obtain ⟨o, es, ep, h1, h2, _⟩ := p
    exact PySem.W.kia_one PySem.W.kitx_dict I.kIn ⟨o, h1, h2.1⟩ e (fun z => nomatch z) h
  | @dT a kvs ea =>
    cases (show u = Value.ref a from rx)
    obtain ⟨_, _, xs, _, o, es, ep, h1, h2, _⟩ := (show ObjOk X.prog X.w H s.heap a (.dT kvs) from I.hok a _ ea)
    exact PySem.W.kia_one PySem.W.kitx_dict I.kIn ⟨o, h1, h2.1⟩ e (fun z => nomatch z) h
  | @ins a C dx fs ea cl ha hn htk hm =>
    cases (show u = Value.ref a from rx)
    obtain ⟨mA, O, _⟩ := ins_get I.hok ea
    obtain ⟨od, J, _⟩ := O.look
    exact PySem.W.kia_one (PySem.W.kitx_own (cl.get _) cl.hd ha hn htk hm) I.kIn J e (fun z => nomatch z) h
end
end L2
namespace L2
open PySem PySem.Spec PyProof.Rows
/-! ### room -/
structure Room (k : Nat) (A : Around) : Prop where
  hd : A.handled = none
  dp : A.depth + 3 * k + 5 < recursionLimit
  un : A.units + 16 * k + 200 < cLine
theorem Room.mono {j k : Nat} {A : Around} (r : Room k A) (h : j ≤ k) : Room j A := ⟨r.hd, by have := r.dp; omega, by have := r.un; omega⟩
theorem Room.deeper {k : Nat} {A : Around} (r : Room (k + 1) A) (env : Env) : Room k (A.deeper env) :=
  ⟨r.hd, by have := r.dp; show A.depth + 1 + 3 * k + 5 < _; omega, by have := r.un; show A.units + 3 + 16 * k + 200 < _; omega⟩
theorem make_depth {A : Around} {C : Addr} {us : List Value} {kw : List (Str × Value)} : (A.under (.builtin "type.__call__" ⟨.ref C :: us, kw⟩)).depth = A.depth + 1 := by
  first | rfl | simp [Around.under, Code.weight, Code.isCreation, Code.isGuard, Code.isCaller, Code.frames, Code.isFrame, guardIds]
theorem make_units {A : Around} {C : Addr} {us : List Value} {kw : List (Str × Value)} : (A.under (.builtin "type.__call__" ⟨.ref C :: us, kw⟩)).units = A.units + 1 := by
  first | rfl | simp [Around.under, Code.cUnits, Code.frames, Code.isFrame]
theorem Room.make {k : Nat} {A : Around} (r : Room (k + 1) A) (C : Addr) (us : List Value) (kw : List (Str × Value)) : Room k (A.under (.builtin "type.__call__" ⟨.ref C :: us, kw⟩)) :=
  ⟨r.hd, by have := r.dp; rw [make_depth]; omega, by have := r.un; rw [make_units]; omega⟩
theorem Room.depth {k : Nat} {A : Around} (r : Room k A) : A.depth < recursionLimit := by have := r.dp; omega
theorem Room.units {k : Nat} {A : Around} (r : Room k A) : A.units + 64 < cLine := by have := r.un; omega
/-! ### argument lists and displays -/
noncomputable def tNil : TA := fun _ H Q => Q [] H
noncomputable def tCons (ta : TE) (tr : TA) : TA := fun σ H Q => ta σ H fun x H1 => tr σ H1 fun xs H2 => Q (x :: xs) H2
section
variable {X : Cx} {e : Expr} {es : List Expr} {te : TE} {t : TA} {pos : Pos}
theorem pa_nil : PA X [] tNil := fun _ _ _ _ H Q I h => Calls.spliced_nil ⟨[], H, I, .nil, h⟩
theorem pa_cons (ha : PE X e te) (hr : PA X es t) (hs : starEach (e :: es) X.env = (false, eval e X.env) :: starEach es X.env := by rfl) : PA X (e :: es) (tCons te t) := by
  intro pos pins s σ H Q I h
  rw [hs]
  show wpAny _ _ (spliced ((false, eval e X.env) :: backTo pos (starEach es X.env))) _ _ s
  refine Calls.spliced_cons (thn (ha pins s σ H _ I h) fun u s1 ⟨x, H1, I1, r1, q1⟩ => ?_)
  exact thn (hr pos pins s1 σ H1 _ I1 q1) fun us s2 ⟨xs, H2, I2, r2, q2⟩ => ⟨x :: xs, H2, I2, .cons r1 r2, q2⟩

noncomputable def tTup (t : TA) : TE := fun σ H Q => t σ H fun xs H1 => xs.length ≤ sizeLine ∧ ∀ p, H1 p = none → Q (.ref p) (upd H1 p (.tup xs))
noncomputable def tLst (t : TA) : TE := fun σ H Q => t σ H fun xs H1 => xs.length ≤ sizeLine ∧ ∀ p, H1 p = none → Q (.ref p) (upd H1 p (.lst xs))
theorem pe_tup {x1} (h : PA X es t) : PE X (.Tuple es x1 pos) (tTup t) := by
  intro pins s σ H Q I hq
  refine wpAny_Tuple_spliced (thn (h pos pins s σ H _ I hq) fun us s1 ⟨xs, H1, I1, r, z, q⟩ => ⟨by rw [← r.length]; exact z, ?_⟩)
  have hf : H1 s1.heap.objs.size = none := I1.hok.fresh (Nat.le_refl _)
  refine ⟨.ref s1.heap.objs.size, upd H1 s1.heap.objs.size (.tup xs), I1.laid (t' := s1.toks) (fun b u e => Heap.get?_push_of_some _ e) (Nat.le_refl _) ?_, rfl, q _ hf⟩
  exact ⟨z, us, r, ⟨_, Heap.get?_push_size _ rfl, rfl, _, rfl⟩⟩
theorem pe_lst (h : PA X es t) : PE X (.List es pos) (tLst t) := by
  intro pins s σ H Q I hq
  refine wpAny_List_spliced (thn (h pos pins s σ H _ I hq) fun us s1 ⟨xs, H1, I1, r, z, q⟩ => ⟨by rw [← r.length]; exact z, ?_⟩)
  have hf : H1 s1.heap.objs.size = none := I1.hok.fresh (Nat.le_refl _)
  refine ⟨.ref s1.heap.objs.size, upd H1 s1.heap.objs.size (.lst xs), I1.laid (t' := s1.toks) (fun b u e => Heap.get?_push_of_some _ e) (Nat.le_refl _) ?_, rfl, q _ hf⟩
  exact ⟨z, us, 0, r, Heap.get?_push_size _ rfl⟩
end
/-! ### what a def promises -/
noncomputable abbrev Sp := List V → Hp → VK → XK → Prop
noncomputable abbrev CXT := List Env → Hp → Shared → XK → Value → Shared → Prop

structure Env0 (P : Program) (w : World) (K : PySem.W.Frag) (mg : Str → Option Value) (base : Heap) (A : Around) (outer : List Env) (s : Shared) (H : Hp) : Prop where
  frames : A.frames = some outer
  mod : Mod K mg base
  bs : ∀ b o, base.get? b = some o → s.heap.get? b = some o ∧ H b = none
  bsz : base.objs.size ≤ s.heap.objs.size
  funs : s.heap.FunFrames base outer
  frf : ∀ b ∈ frs outer, H b = none
  hok : HOk P w H s.heap
  bare : AllBare s.gens
noncomputable def CE (outer : List Env) (P : Program) (w : World) (H : Hp) (s : Shared) (Q : VK) (u : Value) (s' : Shared) : Prop :=
  ∃ v H', s'.os = s.os ∧ AllBare s'.gens ∧ Un (frs outer) [] H H' s.heap s'.heap ∧ HOk P w H' s'.heap ∧ RelV v u ∧ Q v H'
noncomputable def CR (CX : CXT) (outer : List Env) (P : Program) (w : World) (H : Hp) (s : Shared) (Q : VK) (E : XK) (r : Result) (s' : Shared) : Prop :=
  match r with
  | .ok (.ret u) => CE outer P w H s Q u s'
  | .ok _ => False
  | .error e => CX outer H s E e s'
structure FnOk (P : Program) (w : World) (K : PySem.W.Frag) (mg : Str → Option Value) (base : Heap) (CX : CXT) (k : Nat) (f : Addr) (fd : FuncData) (ps : List Str) (sp : Sp) : Prop where
  len : ∀ vs H Q E, sp vs H Q E → vs.length = ps.length
  run : ∀ (A : Around) (outer : List Env) (s : Shared) (H : Hp) (args : Args) (us : List Value) (vs : List V) (Q : VK) (E : XK), Room k A → Env0 P w K mg base A outer s H → BindsTo s fd args (ps.zip us) → Vals vs us → sp vs H Q E →
    codeAny (model P w) A (.call (.ref f) args) (CR CX outer P w H s Q E) s
theorem FnOk.imp {P : Program} {w : World} {K : PySem.W.Frag} {mg : Str → Option Value} {base : Heap} {CX : CXT} {k : Nat} {f : Addr} {fd : FuncData} {ps : List Str} {sp sp' : Sp} (F : FnOk P w K mg base CX k f fd ps sp)
    (h : ∀ vs H Q E, sp' vs H Q E → sp vs H Q E) : FnOk P w K mg base CX k f fd ps sp' :=
  ⟨fun vs H Q E q => F.len vs H Q E (h _ _ _ _ q), fun A outer s H args us vs Q E hr he hb hv hs => F.run A outer s H args us vs Q E hr he hb hv (h _ _ _ _ hs)⟩

theorem Env0.make {P : Program} {w : World} {K : PySem.W.Frag} {mg : Str → Option Value} {base : Heap} {A : Around} {outer : List Env} {s : Shared} {H : Hp} (e : Env0 P w K mg base A outer s H) (C : Addr) (us : List Value) (kw : List (Str × Value)) :
    Env0 P w K mg base (A.under (.builtin "type.__call__" ⟨.ref C :: us, kw⟩)) outer s H := ⟨by first | exact e.frames | (simpa [Around.under, Code.envs, Code.isFrame, pushEnvs] using e.frames), e.mod, e.bs, e.bsz, e.funs, e.frf, e.hok, e.bare⟩
section
variable {X : Cx} {pins : List (Addr × Obj)} {σ : St} {H : Hp} {s s' : Shared}
theorem Inv.env0 (I : Inv X pins σ H s) : Env0 X.prog X.w X.K X.mg X.base X.A X.stack s H :=
  ⟨I.ok.frames, I.ok.mod, I.bs, Nat.le_trans I.ok.bsz I.sz, I.stack, I.stkFree, I.hok, I.bare⟩
theorem Inv.after {Q : VK} {u : Value} (I : Inv X pins σ H s) (h : CE X.stack X.prog X.w H s Q u s') : EP X pins σ Q u s' := by
  obtain ⟨v, H', os, bare, un, hok, r, q⟩ := h
  obtain ⟨hh, g, d, t, os'⟩ := s'
  obtain rfl : os' = s.os := os
  exact ⟨v, H', I.call (h' := hh) (g' := g) (d' := d) (t' := t) (ch := []) un hok bare (fun b z => absurd z (by simp)), r, q⟩
end
/-! ### calls -/
noncomputable def tCall (sp : Sp) (dvs : List V) (E : St → XK) (t : TA) : TE := fun σ H Q => t σ H fun vs H1 => sp (vs ++ dvs) H1 Q (E σ)
noncomputable def tMake (C : Addr) (sp : Sp) (dvs : List V) (E : St → XK) (t : TA) : TE := fun σ H Q => t σ H fun vs H1 => ∀ x dx, H1 x = none → H1 dx = none → dx ≠ x →
  sp (.ref x :: (vs ++ dvs)) (upd (upd H1 dx (.own x)) x (.ins C dx [])) (fun v H2 => v = .non ∧ Q (.ref x) H2) (E σ)

noncomputable def Binds (K : PySem.W.Frag) (fd : FuncData) (ps : List Str) (ds : List Value) : Prop :=
  ∀ (s : Shared) (us : List Value), K.In s.heap → (us ++ ds).length = ps.length → BindsTo s fd ⟨us, []⟩ (ps.zip (us ++ ds))
theorem Binds.all {K : PySem.W.Frag} {fd : FuncData} {ps : List Str} (h : ∀ us : List Value, us.length = ps.length → bindArgs fd ⟨us, []⟩ = pure (ps.zip us)) : Binds K fd ps [] := fun s us _ hl => by
  rw [List.append_nil] at hl ⊢
  exact .of_eq (h us hl)

noncomputable def Passes (CX : CXT) (X : Cx) (E : St → XK) : Prop := ∀ (pins : List (Addr × Obj)) (σ : St) (H : Hp) (s : Shared) (e : Value) (s' : Shared), Inv X pins σ H s → CX X.stack H s (E σ) e s' → X.xe e s'

section
variable {X : Cx} {CX : CXT} {k : Nat} {f C : Addr} {fd : FuncData} {ps : List Str} {sp : Sp} {dvs : List V} {ds : List Value} {E : St → XK} {x m : Str} {p pos apos : Pos} {e o : Expr} {es : List Expr} {ta : TE} {t : TA}
theorem run_fn {pins : List (Addr × Obj)} {σ : St} {H : Hp} {s : Shared} {Q : VK} {us : List Value} {vs : List V} (F : FnOk X.prog X.w X.K X.mg X.base CX k f fd ps sp) (hr : Room k X.A) (hb : Binds X.K fd ps ds) (hd : Vals dvs ds) (hx : Passes CX X E)
    (I : Inv X pins σ H s) (r : Vals vs us) (h : sp (vs ++ dvs) H Q (E σ)) : wpAny (model X.prog X.w) X.A (call (.ref f) us) (EP X pins σ Q) X.xe s := by
  have r2 : Vals (vs ++ dvs) (us ++ ds) := r.append hd
  have hl : (us ++ ds).length = ps.length := by rw [← r2.length]; exact F.len _ _ _ _ h
  refine wpAny_call (codeAny_mono (F.run X.A X.stack s H ⟨us, []⟩ (us ++ ds) (vs ++ dvs) Q (E σ) hr I.env0 (hb s us I.kIn hl) r2 h) fun r s' hq => ?_)
  cases r with
  | error e => exact hx pins σ H s e s' I hq
  | ok fl =>
    cases fl with
    | ret u => exact I.after hq
    | next => exact False.elim hq
    | brk => exact False.elim hq
    | cont => exact False.elim hq

theorem pe_call (F : FnOk X.prog X.w X.K X.mg X.base CX k f fd ps sp) (hr : Room k X.A) (hg : Gl X x) (hm : X.mg x = some (.ref f)) (hk : PySem.W.keepIn X.K (.ref f) = true) (hb : Binds X.K fd ps ds) (hd : Vals dvs ds) (hx : Passes CX X E)
    (ha : PA X (e :: es) t) (hdb : (x == ("__debug__" : Str)) = false := by decide) (he : starEach (e :: es) X.env = (false, eval e X.env) :: starEach es X.env := by rfl) (hpl : (backTo pos (starEach es X.env)).any (·.1) = false := by rfl) :
    PE X (.Call (.Name x p) (e :: es) [] pos) (tCall sp dvs E t) := by
  intro pins s σ H Q I h
  refine wpAny_Call_Name_kw (ld_glob I hg hm ?_ hdb)
  refine PySem.W.callWith_K (h₀ := X.base) I.ok.mod.kin hk (thn (ha pos pins s σ H _ I h) fun us s1 ⟨vs, H1, I1, r, q⟩ => ⟨I1.kIn, ?_⟩) he hpl
  exact run_fn F hr hb hd hx I1 r q
structure Mk (K : PySem.W.Frag) (C f : Addr) : Prop where
  makes : PySem.W.makesIn K C = true
  init : PySem.W.findIn K (.ref C) "__init__" = some (some (.ref f))
  fn : PySem.W.isFn K (.ref f) = true
  kp : PySem.W.keepIn K (.ref C) = true

theorem run_make {pins : List (Addr × Obj)} {σ : St} {H : Hp} {s : Shared} {Q : VK} {us : List Value} {vs : List V} (M : Mk X.K C f) (F : FnOk X.prog X.w X.K X.mg X.base CX k f fd ps sp) (hr : Room (k + 1) X.A) (hb : Binds X.K fd ps ds) (hd : Vals dvs ds)
    (hx : Passes CX X E) (I : Inv X pins σ H s) (r : Vals vs us)
    (h : ∀ x dx, H x = none → H dx = none → dx ≠ x → sp (.ref x :: (vs ++ dvs)) (upd (upd H dx (.own x)) x (.ins C dx [])) (fun v H2 => v = .non ∧ Q (.ref x) H2) (E σ)) :
    wpAny (model X.prog X.w) X.A (call (.ref C) us) (EP X pins σ Q) X.xe s := by
  have hq := h (s.heap.objs.size + 1) s.heap.objs.size (I.hok.fresh (Nat.le_succ _)) (I.hok.fresh (Nat.le_refl _)) (Nat.ne_of_lt (Nat.lt_succ_self _))
  have I2 := Inv.made (C := C) I
  have r2 : Vals (V.ref (s.heap.objs.size + 1) :: (vs ++ dvs)) (Value.ref (s.heap.objs.size + 1) :: (us ++ ds)) := .cons rfl (r.append hd)
  have hl : (Value.ref (s.heap.objs.size + 1) :: us ++ ds).length = ps.length := by
    have e := r2.length
    rw [F.len _ _ _ _ hq] at e
    exact e.symm
  refine wpAny_call (make_map (f := f) I.kIn M.makes M.init (beq_iff_eq.mp M.fn) (codeAny_mono (F.run _ X.stack _ _ ⟨Value.ref (s.heap.objs.size + 1) :: us, []⟩ (Value.ref (s.heap.objs.size + 1) :: (us ++ ds)) _ _ (E σ) (hr.make C us [])
    (I2.env0.make C us []) (hb _ (Value.ref (s.heap.objs.size + 1) :: us) I2.kIn hl) r2 hq) fun r s' hq' => ?_))
  cases r with
  | error e => exact hx pins σ _ _ e s' I2 hq'
  | ok fl =>
    cases fl with
    | ret u =>
      obtain ⟨v, H', I3, rv, ev, q3⟩ := I2.after hq'
      subst ev
      exact ⟨rv, ⟨V.ref (s.heap.objs.size + 1), H', I3, rfl, q3⟩⟩
    | next => exact False.elim hq'
    | brk => exact False.elim hq'
    | cont => exact False.elim hq'
theorem pe_make (M : Mk X.K C f) (F : FnOk X.prog X.w X.K X.mg X.base CX k f fd ps sp) (hr : Room (k + 1) X.A) (hg : Gl X x) (hm : X.mg x = some (.ref C)) (hb : Binds X.K fd ps ds) (hd : Vals dvs ds) (hx : Passes CX X E)
    (ha : PA X (e :: es) t) (hdb : (x == ("__debug__" : Str)) = false := by decide) (he : starEach (e :: es) X.env = (false, eval e X.env) :: starEach es X.env := by rfl) (hpl : (backTo pos (starEach es X.env)).any (·.1) = false := by rfl) :
    PE X (.Call (.Name x p) (e :: es) [] pos) (tMake C sp dvs E t) := by
  intro pins s σ H Q I h
  refine wpAny_Call_Name_kw (ld_glob I hg hm ?_ hdb)
  refine PySem.W.callWith_K (h₀ := X.base) I.ok.mod.kin M.kp (thn (ha pos pins s σ H _ I h) fun us s1 ⟨vs, H1, I1, r, q⟩ => ⟨I1.kIn, ?_⟩) he hpl
  exact run_make M F hr hb hd hx I1 r q
end
/-! ### keywords -/
section
variable {X : Cx} {CX : CXT} {k : Nat} {f C : Addr} {fd : FuncData} {ps ks : List Str} {sp : Sp} {E : St → XK} {x m : Str} {p pos apos kpos : Pos} {e o : Expr} {es : List Expr} {kws : List Keyword} {te ta : TE} {t tk : TA} {nm : Option Str}
variable {g : List Value → List Value → List Value} {gV : List V → List V → List V}
end
/-! ### a def's body keeps its promise -/
structure FnScope (N P : List Str) (sc : Scope) : Prop where
  kind : sc.kind = .function
  co : sc.isCoroutine = false
  gen : sc.isGenerator = false
  nd : N.Nodup
  pre : N.take P.length = P
  par : ∀ x ∈ P, sc.names.lookup x = some .local ∨ sc.names.lookup x = some .cell
  nofree : ∀ y ∈ sc.names, y.2 ≠ .free

theorem bindL_out {kindOf : Str → Option NameKind} {x : Str} : ∀ {binds : List (Str × Value)} {m : Str → Option Value}, (∀ v, (x, v) ∉ binds) → bindL kindOf binds m x = m x
  | [], _, _ => rfl
  | (n, v) :: r, m, h => by
    unfold bindL
    rw [bindL_out fun w hw => h w (List.mem_cons_of_mem _ hw)]
    split
    · have : x ≠ n := by rintro rfl; exact h v List.mem_cons_self
      simp [this]
    · rfl
theorem bindC_out {kindOf : Str → Option NameKind} {x : Str} : ∀ {binds : List (Str × Value)} {m : Str → Option Value}, (∀ v, (x, v) ∉ binds) → bindC kindOf binds m x = m x
  | [], _, _ => rfl
  | (n, v) :: r, m, h => by
    unfold bindC
    rw [bindC_out fun w hw => h w (List.mem_cons_of_mem _ hw)]
    split
    · rfl
    · have : x ≠ n := by rintro rfl; exact h v List.mem_cons_self
      simp [this]
theorem bindL_get {kindOf : Str → Option NameKind} {x : Str} {v : Value} : ∀ {P : List Str} {vs : List Value} {i : Nat} {m : Str → Option Value}, P.Nodup → P[i]? = some x → vs[i]? = some v → kindOf x = some .local →
    bindL kindOf (P.zip vs) m x = some v
  | [], _, _, _, _, h, _, _ => by simp at h
  | _ :: _, [], _, _, _, _, h, _ => by simp at h
  | p :: P, w :: vs, 0, m, nd, h1, h2, hk => by
    simp at h1 h2; subst h1; subst h2
    show bindL kindOf ((p, w) :: P.zip vs) m p = _
    unfold bindL
    rw [bindL_out fun v hv => (List.nodup_cons.mp nd).1 (List.of_mem_zip hv).1, if_pos hk]
    simp
  | p :: P, w :: vs, i + 1, m, nd, h1, h2, hk => by
    show bindL kindOf ((p, w) :: P.zip vs) m x = _
    unfold bindL
    exact bindL_get (i := i) (List.nodup_cons.mp nd).2 (by simpa using h1) (by simpa using h2) hk
theorem bindC_get {kindOf : Str → Option NameKind} {x : Str} {v : Value} : ∀ {P : List Str} {vs : List Value} {i : Nat} {m : Str → Option Value}, P.Nodup → P[i]? = some x → vs[i]? = some v → kindOf x ≠ some .local →
    bindC kindOf (P.zip vs) m x = some v
  | [], _, _, _, _, h, _, _ => by simp at h
  | _ :: _, [], _, _, _, _, h, _ => by simp at h
  | p :: P, w :: vs, 0, m, nd, h1, h2, hk => by
    simp at h1 h2; subst h1; subst h2
    show bindC kindOf ((p, w) :: P.zip vs) m p = _
    unfold bindC
    rw [bindC_out fun v hv => (List.nodup_cons.mp nd).1 (List.of_mem_zip hv).1, if_neg hk]
    simp
  | p :: P, w :: vs, i + 1, m, nd, h1, h2, hk => by
    show bindC kindOf ((p, w) :: P.zip vs) m x = _
    unfold bindC
    exact bindC_get (i := i) (List.nodup_cons.mp nd).2 (by simpa using h1) (by simpa using h2) hk

noncomputable def start (N : List Str) (vs : List V) : St := vs.map some ++ List.replicate (N.length - vs.length) none

noncomputable def cxOf (CX : CXT) (P : Program) (w : World) (K : PySem.W.Frag) (mg : Str → Option Value) (base : Heap) (N : List Str) (qual : Str) (scope : Scope) (f : Addr) (cd : Value) (A : Around) (outer : List Env) (s : Shared) (H : Hp) (E : XK) : Cx where
  prog := P
  w := w
  K := K
  mg := mg
  base := base
  A := A.deeper (envOfC qual scope s.heap.objs.size f cd)
  N := N
  s₀ := s
  H₀ := H
  env := envOfC qual scope s.heap.objs.size f cd
  outer := outer
  stack := envOfC qual scope s.heap.objs.size f cd :: outer
  ex := []
  calm := true
  fn := fun _ => true
  pn := []
  xe := fun e s' => wpAny (model P w) (A.deeper (envOfC qual scope s.heap.objs.size f cd)) (leaving (envOfC qual scope s.heap.objs.size f cd) e) (fun _ s'' => CX outer H s E e s'') (fun e' s'' => CX outer H s E e' s'') s'

theorem cell_has {sc : Scope} {n : Nat} {x : Str} (h : sc.names.lookup x = some .cell) : ∃ c, (cellsFrom n sc.names []).lookup x = some c := by
  have q := PySem.W.cellsFrom_some sc.names n [] (.inl h)
  exact Option.isSome_iff_exists.mp q

theorem inv_start {CX : CXT} {P : Program} {w : World} {K : PySem.W.Frag} {mg : Str → Option Value} {base : Heap} {N ps : List Str} {qual : Str} {scope : Scope} {f : Addr} {cd : Value} {A : Around} {outer : List Env} {s s1 : Shared} {H : Hp} {E : XK} {us : List Value} {vs : List V}
    (S : FnScope N ps scope) (hd : A.handled = none) (e0 : Env0 P w K mg base A outer s H) (hl : vs.length = ps.length) (r : Vals vs us)
    (x : InCallC s s.heap.objs.size (bindL (envOfC qual scope s.heap.objs.size f cd).kindOf (ps.zip us) fun _ => none) (cellsFrom (s.heap.objs.size + 1) scope.names []) (bindC (envOfC qual scope s.heap.objs.size f cd).kindOf (ps.zip us) fun _ => none) s1) :
    Inv (cxOf CX P w K mg base N qual scope f cd A outer s H E) [] (start N vs) H s1 := by
  have hpl : ps.length ≤ N.length := by have := congrArg List.length S.pre; rw [List.length_take] at this; omega
  obtain ⟨h1, tk, rfl, hk⟩ := x.done
  have noA : ∀ b : Addr, b ∉ (cxOf CX P w K mg base N qual scope f cd A outer s H E).ex := fun b z => absurd (show b ∈ ([] : List Addr) from z) (by simp)
  refine ⟨⟨e0.mod, S.kind, rfl, rfl, Nat.le_refl _, fun y z c h1 h2 => ?_, fun y hy => ?_, fun y c _ h => ?_, fun _ => hd, Around.frames_deeper e0.frames, .inr ⟨rfl, rfl⟩, fun b z => absurd z (noA b), e0.bs, e0.bsz, fun b _ _ => noA b, fun b z => absurd z (noA b), e0.funs, e0.frf⟩,
    rfl, e0.bare, Un.kept hk, ⟨_, x.toInCall.ns, fun i y v h1 h2 h3 => ?_⟩, fun y c h => ⟨_, x.cell y c h⟩, e0.hok.fresh (Nat.le_refl _), fun y c h => ?_, fun p hp => absurd (show p ∈ ([] : List (Addr × Obj)) from hp) (by simp), e0.hok.kept hk, ?_⟩
  · exact name_of_addr x.apart (PySem.mem_of_lookup h1) (PySem.mem_of_lookup h2)
  · have hy : scope.names.lookup y = some .cell ∨ scope.names.lookup y = some .free := hy
    rcases hy with hy | hy
    · exact cell_has hy
    · exact absurd rfl (S.nofree _ (PySem.mem_of_lookup hy))
  · exact Nat.le_of_lt (x.above y c (PySem.mem_of_lookup h))
  · have hi : i < vs.length := by
      unfold start at h2
      by_cases hi : i < vs.length
      · exact hi
      · rw [List.getElem?_append_right (by simpa using hi)] at h2
        rw [List.getElem?_replicate] at h2
        split at h2 <;> cases h2
    have ha : vs[i]? = some v := by
      unfold start at h2
      rw [List.getElem?_append_left (by simpa using hi), List.getElem?_map] at h2
      cases e : vs[i]? with
      | none => rw [e] at h2; cases h2
      | some a => rw [e] at h2; cases h2; rfl
    obtain ⟨u, hu, rv⟩ := r.get ha
    have hp : ps[i]? = some y := by
      rw [← S.pre, List.getElem?_take_of_lt (by omega)]; exact h1
    have ndP : ps.Nodup := by rw [← S.pre]; exact S.nd.sublist (List.take_sublist _ _)
    refine ⟨u, rv, ?_⟩
    rcases S.par y (List.mem_of_getElem? hp) with k | k
    · exact .inl ⟨k, bindL_get ndP hp hu k⟩
    · obtain ⟨c, e⟩ := cell_has (n := s.heap.objs.size + 1) k
      refine .inr ⟨.inl k, c, e, ?_⟩
      have q := x.cell y c e
      rw [bindC_get ndP hp hu (by show scope.names.lookup y ≠ _; rw [k]; decide)] at q
      exact q
  · exact e0.hok.fresh (Nat.le_of_lt (x.above y c (PySem.mem_of_lookup h)))
  · unfold start
    show _ = N.length
    rw [List.length_append, List.length_map, List.length_replicate]
    omega

theorem fn_of {CX : CXT} {P : Program} {w : World} {K : PySem.W.Frag} {mg : Str → Option Value} {base : Heap} {k : Nat} {f : Addr} {name qual : Str} {params : Arguments} {body : List Stmt} {scope : Scope} {dV kV doc pm cdv ct oc : Value} {an od : Option Addr}
    {osl : Array (Option Value)} {N ps : List Str} {sp : Sp} (lk : K.lookup f = some ⟨oc, od, .func (PySem.W.fnOf name qual params body scope dV kV doc pm an cdv ct), osl⟩) (hcd : PySem.W.codeIn K cdv qual = true) (S : FnScope N ps scope)
    (len : ∀ vs H Q E, sp vs H Q E → vs.length = ps.length)
    (hbody : ∀ (A : Around) (outer : List Env) (s : Shared) (H : Hp) (vs : List V) (Q : VK) (E : XK), Room k (A.deeper (envOfC qual scope s.heap.objs.size f cdv)) → sp vs H Q E →
      ∃ t, PSs (cxOf CX P w K mg base N qual scope f cdv A outer s H E) body t ∧ t { nx := fun _ H' => Q .non H', rt := Q } (start N vs) H) :
    FnOk P w K mg base CX (k + 1) f (PySem.W.fnOf name qual params body scope dV kV doc pm an cdv ct) ps sp := by
  refine ⟨len, fun A outer s H args us vs Q E hr e0 hb r hsp => ?_⟩
  have hl := len _ _ _ _ hsp
  have KX : K.In s.heap := e0.mod.kin.keeps fun b o e => (e0.bs b o e).1
  have lim : s.heap.NoLimit := e0.mod.nolimit.keeps fun b o e => (e0.bs b o e).1
  have hkind : ∀ y ∈ ps.zip us, scope.names.lookup y.1 = some .local ∨ (scope.names.lookup y.1 = some .cell ∧ ((cellsFrom (s.heap.objs.size + 1) scope.names []).lookup y.1).isSome = true) := fun ⟨n, v⟩ hy => by
    rcases S.par n (List.of_mem_zip hy).1 with q | q
    · exact .inl q
    · exact .inr ⟨q, PySem.W.cellsFrom_some _ _ _ (.inl q)⟩
  refine codeAny_call_function hr.depth (KX _ _ lk) rfl S.co S.gen rfl (PySem.W.codeRec_of KX hcd) (hb _ _ _ _ ?_)
  refine wpAny_newFunctionEnv_cells S.kind hkind fun env he s1 x => ?_
  subst he
  refine ⟨lim.keeps x.toInCall.keep, codeAny_func ?_⟩
  obtain ⟨t, ht, hq⟩ := hbody A outer s H vs Q E (hr.deeper _) hsp
  have I : Inv (cxOf CX P w K mg base N qual scope f cdv A outer s H E) [] (start N vs) H s1 := inv_start S hr.hd e0 hl r x
  refine wpAny_mono (ht [] s1 (start N vs) H _ I hq) (fun fl s' hs => ?_) fun e s' hs => hs
  have fin : ∀ {σ' : St} {H' : Hp} {v : V} {u : Value}, Inv (cxOf CX P w K mg base N qual scope f cdv A outer s H E) [] σ' H' s' → RelV v u → Q v H' → CE outer P w H s Q u s' :=
    fun {σ' H' v u} J rv q => ⟨v, H', J.os, J.bare, J.base, J.hok, rv, q⟩
  cases fl with
  | ret u =>
    obtain ⟨v, σ', H', J, rv, q⟩ := hs
    exact fin J rv q
  | next =>
    obtain ⟨σ', H', J, q⟩ := hs
    exact fin (v := V.non) (u := Value.none) J rfl q
  | brk =>
    obtain ⟨_, _, _, q⟩ := hs
    exact False.elim q
  | cont =>
    obtain ⟨_, _, _, q⟩ := hs
    exact False.elim q
end L2
namespace L2
open PySem PySem.Spec PyProof.Rows
section
variable {X : Cx} {x : Str} {p pos : Pos} {e : Expr} {es : List Expr} {t : TA} {id T : String} {r : List V → Hp → VK → Prop}
noncomputable def tCB (r : List V → Hp → VK → Prop) (t : TA) : TE := fun σ H Q => t σ H fun vs H1 => r vs H1 Q
theorem pe_callB (hc : CallR X (.builtin id) r) (hg : Gl X x) (hm : X.mg x = none) (hv : bootBuiltins x = some (.builtin id)) (ha : PA X (e :: es) t) (hn : x ≠ "__name__" := by decide) (hdb : (x == ("__debug__" : Str)) = false := by decide)
    (he : starEach (e :: es) X.env = (false, eval e X.env) :: starEach es X.env := by rfl) (hpl : (backTo pos (starEach es X.env)).any (·.1) = false := by rfl) : PE X (.Call (.Name x p) (e :: es) [] pos) (tCB r t) := by
  intro pins s σ H Q I h
  refine wpAny_Call_Name_kw (ld_blt I hg hm hv ?_ hn hdb)
  exact PyProof.Rows.callWith_builtin1 (thn (ha pos pins s σ H _ I h) fun us s1 ⟨vs, H1, I1, r1, q1⟩ => hc pins s1 σ H1 vs us Q I1 r1 q1) he hpl
theorem pe_callTy (hc : CallR X (.type T) r) (hg : Gl X x) (hm : X.mg x = none) (hv : bootBuiltins x = some (.type T)) (ha : PA X (e :: es) t) (hn : x ≠ "__name__" := by decide) (hdb : (x == ("__debug__" : Str)) = false := by decide)
    (he : starEach (e :: es) X.env = (false, eval e X.env) :: starEach es X.env := by rfl) (hpl : (backTo pos (starEach es X.env)).any (·.1) = false := by rfl) : PE X (.Call (.Name x p) (e :: es) [] pos) (tCB r t) := by
  intro pins s σ H Q I h
  refine wpAny_Call_Name_kw (ld_blt I hg hm hv ?_ hn hdb)
  exact PyProof.Rows.callWith_type1 (thn (ha pos pins s σ H _ I h) fun us s1 ⟨vs, H1, I1, r1, q1⟩ => hc pins s1 σ H1 vs us Q I1 r1 q1) he hpl
end
end L2
namespace HT
open PySem PyProof.Rows
section
open PySem.SeqAt
open PySem.AutoSeq1 (wpAny_loadPart')
open PySem.MeetsSeq PySem.MeetsSeq2 PySem.MeetsSeq3
end
section
variable {prog : Program} {w : World} {A : Around} {E : Value → Shared → Prop} {s : Shared}
theorem cat_tup {t b : Addr} {vs ws : List Value} {Q : Value → Shared → Prop} (ht : IsTup s.heap t vs.toArray) (hb : IsTup s.heap b ws.toArray) (hv : vs ≠ [])
    (h1 : ws = [] → Q (.ref t) s) (h2 : ws ≠ [] → Q (.ref s.heap.objs.size) { s with heap := s.heap.push { cls := .type "tuple", data := .seq (vs ++ ws).toArray } })
    (hsz : vs.length + ws.length ≤ sizeLine) : wpAny (model prog w) A (binaryOp .Add (.ref t) (.ref b)) Q E s := by
  obtain ⟨⟨cls, dd, data, sl⟩, ho, hc, n, hd⟩ := id ht
  obtain ⟨⟨cls2, dd2, data2, sl2⟩, ho2, hc2, n2, hd2⟩ := id hb
  simp only at hc hd hc2 hd2
  subst hc hd hc2 hd2
  have e : vs.toArray ++ ws.toArray = (vs ++ ws).toArray := by simp
  by_cases hw : ws = []
  · exact concat_meets ⟨_, ho, rfl⟩ ⟨_, ho2, rfl⟩ noFill_tuple_add seq_tuple_add PySem.F.slot_tuple_add PySem.F.entry_tuple_add (PySem.F.args_tuple_add_2 _ _)
      (tuple_addW1 t b vs.toArray ws.toArray n n2 dd dd2 sl sl2 (by simpa using hv) (by simp [hw])) ⟨ho, ho2, h1 hw⟩
  · refine concat_meets ⟨_, ho, rfl⟩ ⟨_, ho2, rfl⟩ noFill_tuple_add seq_tuple_add PySem.F.slot_tuple_add PySem.F.entry_tuple_add (PySem.F.args_tuple_add_2 _ _)
      (tuple_addW2 t b vs.toArray ws.toArray n n2 dd dd2 sl sl2 (by simpa using hv) (by simpa using hw) (by rw [List.size_toArray, List.size_toArray]; exact hsz)) ⟨ho, ho2, ?_⟩
    rw [e]
    exact h2 hw

/-! ### t[a:b], not the whole -/
noncomputable def sIx (n d : Nat) : Option Int → Nat
  | none => d
  | some v => if v < 0 then (v + (n : Int)).toNat else min v.toNat n
end
end HT
namespace L2
open PySem PySem.Spec PyProof.Rows
/-! ### the parts of a slice -/
noncomputable abbrev TO := St → Hp → (Option Int → Hp → Prop) → Prop
noncomputable def PO (X : Cx) (e : Option Expr) (t : TO) : Prop :=
  ∀ (pins : List (Addr × Obj)) (s : Shared) (σ : St) (H : Hp) (Q : Option Int → Hp → Prop), Inv X pins σ H s → t σ H Q →
    wpAny (model X.prog X.w) X.A (evalPart e X.env) (fun u s' => ∃ o H', Inv X pins σ H' s' ∧ IsPart u o ∧ Q o H') X.xe s
noncomputable def tNoPart : TO := fun _ H Q => Q none H
noncomputable def tPart (t : TE) : TO := fun σ H Q => t σ H fun x H1 => ∃ i, x = .int i ∧ Q (some i) H1

section
variable {X : Cx} {e : Expr} {te : TE} {lo hi : Option Expr} {tl th : TO} {pos p2 : Pos}
theorem po_none : PO X none tNoPart := by
  intro pins s σ H Q I h
  rw [evalPart_none]
  exact wpAny_pure ⟨none, H, I, .none, h⟩
theorem po_some (h : PE X e te) : PO X (some e) (tPart te) := by
  intro pins s σ H Q I hw
  rw [evalPart_some]
  refine thn (h pins s σ H _ I hw) fun u s1 ⟨x, H1, I1, r1, q1⟩ => ?_
  obtain ⟨i, rfl, q⟩ := q1
  obtain ⟨t, rfl⟩ := r1
  exact ⟨some i, H1, I1, .int i t, q⟩

noncomputable def SlR (X : Cx) (r : V → Option Int → Option Int → Hp → VK → Prop) : Prop :=
  ∀ (pins : List (Addr × Obj)) (s : Shared) (σ : St) (H : Hp) (x : V) (v vl vu : Value) (lo hi : Option Int) (sl : Addr) (Q : VK), Inv X pins σ H s → RelV x v → s.heap.IsSliceOf sl vl vu .none → IsPart vl lo → IsPart vu hi → r x lo hi H Q →
    ∃ T id, typeLookup (.type T) "__getitem__" = pure (some (.builtin id)) ∧ s.TypeIs v T ∧ wpAny (model X.prog X.w) X.A (getItem v (.ref sl)) (EP X pins σ Q) X.xe s
noncomputable def tSl (r : V → Option Int → Option Int → Hp → VK → Prop) (te : TE) (tl th : TO) : TE := fun σ H Q => te σ H fun x H1 => tl σ H1 fun l H2 => th σ H2 fun u H3 => r x l u H3 Q
theorem pe_slice {r : V → Option Int → Option Int → Hp → VK → Prop} (hr : SlR X r) (he : PE X e te) (hl : PO X lo tl) (hu : PO X hi th) : PE X (.Subscript e (.Slice lo hi none p2) pos) (tSl r te tl th) := by
  intro pins s σ H Q I h
  refine Subscript_ (thn (he pins s σ H _ I h) fun v s1 ⟨x, H1, I1, r1, q1⟩ => ?_)
  refine wpAny_Slice (thn (hl pins s1 σ H1 _ I1 q1) fun vl s2 ⟨l, H2, I2, pl, q2⟩ => thn (hu pins s2 σ H2 _ I2 q2) fun vu s3 ⟨u, H3, I3, pu, q3⟩ => ?_)
  rw [evalPart_none]
  refine wpAny_pure ?_
  have I4 : Inv X pins σ H3 { s3 with heap := s3.heap.push { cls := .type "slice", data := .fields #[vl, vu, .none] } } := I3.kept (t' := s3.toks) fun b ob q => Heap.get?_push_of_some _ q
  obtain ⟨T, id, hT, ht, hg⟩ := hr pins { s3 with heap := s3.heap.push { cls := .type "slice", data := .fields #[vl, vu, .none] } } σ H3 x v vl vu l u s3.heap.objs.size Q I4 r1 (Heap.IsSliceOf.new ..) pl pu q3
  show wpAny (model X.prog X.w) X.A (subscriptTail e (.Slice lo hi none p2) v (.ref s3.heap.objs.size)) (EP X pins σ Q) X.xe { s3 with heap := s3.heap.push { cls := .type "slice", data := .fields #[vl, vu, .none] } }
  exact tail_any (ops := [.ref s3.heap.objs.size, v]) ht hT hg (by with_unfolding_all rfl)

noncomputable def cutV (xs : List V) (lo hi : Option Int) : List V := (xs.drop (HT.sIx xs.length 0 lo)).take (HT.sIx xs.length xs.length hi - HT.sIx xs.length 0 lo)
theorem cutV_length (xs : List V) (lo hi : Option Int) : (cutV xs lo hi).length ≤ xs.length := by
  unfold cutV
  rw [List.length_take, List.length_drop]
  omega
/-! ### t < u, t + u -/
theorem Vals.nil_iff {xs : List V} {us : List Value} (r : Vals xs us) : us = [] ↔ xs = [] := by
  cases r with
  | nil => simp
  | cons _ _ => simp
end
end L2
namespace L2
open PySem PySem.Spec PyProof.Rows
/-! ### places -/
noncomputable def ixN (n : Nat) (i : Int) : Option Nat := if 0 ≤ i then (if i < n then some i.toNat else none) else if -(n : Int) ≤ i then some (i + n).toNat else none
noncomputable def atI {α : Type} (xs : List α) (i : Int) : Option α := (ixN xs.length i).bind fun j => xs[j]?
theorem ixN_seq {n : Nat} {i : Int} {j : Nat} (h : ixN n i = some j) : seqIndex? i n = some j ∧ j < n ∧ -(n : Int) ≤ i ∧ i < n := by
  unfold ixN at h
  by_cases h0 : 0 ≤ i
  · rw [if_pos h0] at h
    by_cases h1 : i < n
    · rw [if_pos h1] at h
      have e : i.toNat = j := Option.some.inj h
      exact ⟨by rw [seqIndex_of h0 h1, e], by omega, by omega, h1⟩
    · rw [if_neg h1] at h; cases h
  · rw [if_neg h0] at h
    by_cases h1 : -(n : Int) ≤ i
    · rw [if_pos h1] at h
      have e : (i + n).toNat = j := Option.some.inj h
      exact ⟨by rw [seqIndex_neg (by omega) h1, e], by omega, h1, by omega⟩
    · rw [if_neg h1] at h; cases h
theorem atI_get {α : Type} {xs : List α} {i : Int} {v : α} (h : atI xs i = some v) : ∃ j, seqIndex? i xs.length = some j ∧ xs[j]? = some v ∧ j < xs.length ∧ -(xs.length : Int) ≤ i ∧ i < xs.length := by
  unfold atI at h
  cases e : ixN xs.length i with
  | none => rw [e] at h; cases h
  | some j =>
    rw [e] at h
    obtain ⟨h1, h2, h3, h4⟩ := ixN_seq e
    exact ⟨j, h1, h, h2, h3, h4⟩
theorem atI_nat {α : Type} {xs : List α} {j : Nat} {v : α} (h : xs[j]? = some v) : atI xs (j : Int) = some v := by
  have hj : j < xs.length := (List.getElem?_eq_some_iff.mp h).1
  have e : ixN xs.length (j : Int) = some j := by
    unfold ixN
    rw [if_pos (by omega), if_pos (by omega)]; simp
  unfold atI; rw [e]; exact h
/-! ### what may be subscripted -/
noncomputable def PlainIx (b : Expr) : Prop := ∀ o i, subscripted b false o i = operate [o, i] (getItem o i)
noncomputable def IxR (X : Cx) (r : R2) : Prop :=
  ∀ (value slice : Expr) (pins : List (Addr × Obj)) (s : Shared) (σ : St) (H : Hp) (x y : V) (v u : Value) (Q : VK), Inv X pins σ H s → RelV x v → RelV y u → r x y H Q →
    subscripted slice false v u = operate [v, u] (getItem v u) → wpAny (model X.prog X.w) X.A (subscriptTail value slice v u) (EP X pins σ Q) X.xe s
noncomputable def MtR (X : Cx) (id : String) (r : V → List V → Hp → VK → Prop) : Prop :=
  ∀ (pins : List (Addr × Obj)) (s : Shared) (σ : St) (H : Hp) (x : V) (xs : List V) (v : Value) (us : List Value) (Q : VK), Inv X pins σ H s → RelV x v → Vals xs us → r x xs H Q →
    wpAny (model X.prog X.w) X.A (call (.builtin id) (v :: us)) (EP X pins σ Q) X.xe s
section
variable {X : Cx} {a b : Expr} {ta tb : TE} {pos : Pos}
theorem pe_ix {r : R2} (hr : IxR X r) (ha : PE X a ta) (hb : PE X b tb) (hs : PlainIx b) : PE X (.Subscript a b pos) (tOp r ta tb) := by
  intro pins s σ H Q I h
  exact Subscript_ (binT ha hb I h fun v u s2 x y H2 I2 rx ry q => hr a b pins s2 σ H2 x y v u Q I2 rx ry q (hs _ _))

noncomputable def rIxL (K : PySem.W.Frag) : R2 := fun x y H Q => ∃ p xs i v, x = .ref p ∧ y = .int i ∧ SqL K H p xs ∧ atI xs i = some v ∧ Q v H
noncomputable def rIxT (K : PySem.W.Frag) : R2 := fun x y H Q => ∃ p xs i v, x = .ref p ∧ y = .int i ∧ SqT K H p xs ∧ atI xs i = some v ∧ Q v H
noncomputable def rIxS : R2 := fun x y H Q => ∃ z i c, x = .str z ∧ y = .int i ∧ z.length ≤ sizeLine ∧ atI z.cps.toList i = some c ∧ Q (.str ⟨#[c]⟩) H
theorem ix_list : IxR X (rIxL X.K) := by
  intro value slice pins s σ H x y v u Q I rx ry h hs
  obtain ⟨p, xs, i, z, rfl, rfl, hq, he, q⟩ := h
  cases rx
  obtain ⟨t, rfl⟩ := ry
  obtain ⟨its, r, pl, hz⟩ := I.list hq
  obtain ⟨j, h1, h2, h3, h4, h5⟩ := atI_get he
  obtain ⟨w, ew, rw'⟩ := r.get h2
  have hl := r.length
  have hn := line63
  have fin : EP X pins σ Q w s := ⟨z, H, I, rw', q⟩
  by_cases h0 : 0 ≤ i
  · have hj : i.toNat = j := by
      rw [seqIndex_of h0 h5] at h1
      exact Option.some.inj h1
    exact item_listR pl.isList h0 (by omega) (by rw [hj]; simpa using ew) fin hs
  · have hj : (i + (its.toArray.size : Int)).toNat = j := by
      rw [seqIndex_neg (by omega) h4] at h1
      rw [List.size_toArray, ← hl]
      exact Option.some.inj h1
    exact subscriptTail_builtinR (x := w) pl.isList.typeIs slot_list_getitem.lookup
      (wpAny_getItem_list_neg (Q := fun r s' => r = w ∧ EP X pins σ Q r s') pl.isList (by omega) (by rw [List.size_toArray] <;> omega) (by omega) (by rw [hj]; simpa using ew) ⟨rfl, fin⟩) hs
theorem ix_tup : IxR X (rIxT X.K) := by
  intro value slice pins s σ H x y v u Q I rx ry h hs
  obtain ⟨p, xs, i, z, rfl, rfl, hq, he, q⟩ := h
  cases rx
  obtain ⟨t, rfl⟩ := ry
  obtain ⟨its, r, pl, hz⟩ := I.tuple hq
  obtain ⟨j, h1, h2, h3, h4, h5⟩ := atI_get he
  obtain ⟨w, ew, rw'⟩ := r.get h2
  have hl := r.length
  have hn := line63
  have fin : EP X pins σ Q w s := ⟨z, H, I, rw', q⟩
  exact subscriptTail_builtinR (x := w) pl.typeIs slot_tuple_getitem.lookup
    (getItem_tuple (j := j) (Q := fun r s' => r = w ∧ EP X pins σ Q r s') pl (by omega) (by omega) (by rw [List.size_toArray, ← hl]; exact h1) (by simpa using ew) ⟨rfl, fin⟩) hs
theorem ix_str : IxR X rIxS := by
  intro value slice pins s σ H x y v u Q I rx ry h hs
  obtain ⟨z, i, c, rfl, rfl, hz, he, q⟩ := h
  obtain ⟨t, rfl⟩ := rx
  obtain ⟨t', rfl⟩ := ry
  obtain ⟨j, h1, h2, h3, h4, h5⟩ := atI_get he
  have hl : z.cps.toList.length = z.length := by simp [Str.length]
  rw [hl] at h1 h4 h5
  have hn := line63
  exact tail_any (typeIs_str s z t) slot_str_getitem.lookup (getItem_str (c := c) (by
    have e1 : decide (i < -(2 ^ 63 : Int)) = false := decide_eq_false (by omega)
    have e2 : decide (i ≥ 2 ^ 63) = false := decide_eq_false (by omega)
    rw [e1, e2, Bool.or_false]) (by rw [h1]; simpa using h2) ⟨.str ⟨#[c]⟩, H, I.tok _, ⟨_, rfl⟩, q⟩) hs
/-! ### xs[i] = v, any sign -/
theorem mapSeq_set (its : List Value) (n j : Nat) (u : Value) : Obj.mapSeq (·.setIfInBounds j u) { cls := .type "list", data := .seq its.toArray n } = { cls := .type "list", data := .seq (its.set j u).toArray n } := by
  simp [Obj.mapSeq]
theorem Inv.lst {pins : List (Addr × Obj)} {σ : St} {H : Hp} {s : Shared} {p : Addr} {xs : List V} (I : Inv X pins σ H s) (h : H p = some (.lst xs)) :
    ∃ (its : List Value) (n : Nat), Vals xs its ∧ s.heap.get? p = some { cls := .type "list", data := .seq its.toArray n } ∧ xs.length ≤ sizeLine := by
  obtain ⟨z, its, n, r, e⟩ := I.hok p _ h
  exact ⟨its, n, r, e, z⟩
theorem Inv.lstUpd {pins : List (Addr × Obj)} {σ : St} {H : Hp} {s : Shared} {p : Addr} {xs ys : List V} {its its' : List Value} {n n' : Nat} {f : Obj → Obj} (I : Inv X pins σ H s) (h : H p = some (.lst xs))
    (ho : s.heap.get? p = some { cls := .type "list", data := .seq its.toArray n }) (hf : f { cls := .type "list", data := .seq its.toArray n } = { cls := .type "list", data := .seq its'.toArray n' }) (r : Vals ys its') (hz : ys.length ≤ sizeLine) (t : Nat) :
    Inv X pins σ (upd H p (.lst ys)) { s with heap := s.heap.update p f, toks := t } := by
  have e : (s.heap.update p f).get? p = some { cls := .type "list", data := .seq its'.toArray n' } := by
    rw [Heap.get?_update_self f ho (by rw [hf] <;> rfl), hf]
  refine I.write (x := p) (e := p) (by rw [h]; trivial) (.inl rfl) (fun b u hb q => (Heap.get?_update_other _ _ (Ne.symm hb)).trans q) ⟨_, e⟩ ?_
  exact ⟨hz, its', n', r, e⟩
noncomputable def rSetL : V → V → V → Hp → (Hp → Prop) → Prop := fun o i v H Q => ∃ p xs k j, o = .ref p ∧ i = .int k ∧ H p = some (.lst xs) ∧ ixN xs.length k = some j ∧ Q (upd H p (.lst (xs.set j v)))
theorem set_list : PSet X rSetL := by
  intro pins s σ H o i v ov iv u Q I ro ri rv h
  obtain ⟨p, xs, k, j, rfl, rfl, hp, hj, q⟩ := h
  cases ro
  obtain ⟨t, rfl⟩ := ri
  obtain ⟨its, n, r, ho, hz⟩ := I.lst hp
  obtain ⟨h1, h2, h3, h4⟩ := ixN_seq hj
  have hl := r.length
  have hn := line63
  have I' : Inv X pins σ (upd H p (.lst (xs.set j v))) { s with heap := s.heap.update p (Obj.mapSeq (·.setIfInBounds j u)) } :=
    I.lstUpd hp ho (mapSeq_set its n j u) (r.set rv j) (by rw [List.length_set]; exact hz) s.toks
  by_cases h0 : 0 ≤ k
  · have hk : k.toNat = j := by
      rw [seqIndex_of h0 h4] at h1
      exact Option.some.inj h1
    exact PySem.W.ki_setAt ho h0 (by omega) (by rw [List.size_toArray, ← hl]; exact h4) (by rw [hk]; exact ⟨_, I', q⟩)
  · have hk : (k + (its.toArray.size : Int)).toNat = j := by
      rw [seqIndex_neg (by omega) h3] at h1
      rw [List.size_toArray, ← hl]
      exact Option.some.inj h1
    exact PySem.W.ki_setBack ho (by omega) (by rw [List.size_toArray, ← hl]; exact h3) (by omega) (by rw [hk]; exact ⟨_, I', q⟩)

/-! ### slices -/
theorem slice_bounds (lo hi : Option Int) (n : Nat) : (sliceBounds lo hi none n).1 = ((HT.sIx n 0 lo : Nat) : Int) ∧ (sliceBounds lo hi none n).2.1 = ((HT.sIx n n hi : Nat) : Int) ∧ (sliceBounds lo hi none n).2.2 = 1 := by
  refine ⟨?_, ?_, rfl⟩
  · cases lo with
    | none => simp [sliceBounds, HT.sIx]
    | some i =>
      simp only [sliceBounds, HT.sIx, Option.getD_none, show (1 : Int) > 0 by decide, if_true]
      by_cases h : i < 0
      · simp only [h, if_true] <;> omega
      · simp only [h, if_false] <;> omega
  · cases hi with
    | none => simp [sliceBounds, HT.sIx]
    | some i =>
      simp only [sliceBounds, HT.sIx, Option.getD_none, show (1 : Int) > 0 by decide, if_true]
      by_cases h : i < 0
      · simp only [h, if_true] <;> omega
      · simp only [h, if_false] <;> omega
theorem slicePick_cut (its : List Value) (lo hi : Option Int) : slicePick its.toArray lo hi none = ((its.drop (HT.sIx its.length 0 lo)).take (HT.sIx its.length its.length hi - HT.sIx its.length 0 lo)).toArray := by
  obtain ⟨h1, h2, h3⟩ := slice_bounds lo hi its.toArray.size
  unfold slicePick
  rw [h1, h2, h3]
  simp only [sliceRange_one, pick_run, List.size_toArray] <;> rfl
noncomputable def rSlL (K : PySem.W.Frag) : V → Option Int → Option Int → Hp → VK → Prop := fun x lo hi H Q => ∃ a xs, x = .ref a ∧ SqL K H a xs ∧ ∀ p, H p = none → Q (.ref p) (upd H p (.lst (cutV xs lo hi)))
theorem sl_list : SlR X (rSlL X.K) := by
  intro pins s σ H x v vl vu lo hi sl Q I rx hs pl pu h
  obtain ⟨a, xs, rfl, hx, q⟩ := h
  cases rx
  obtain ⟨its, r, ht, hz⟩ := I.list hx
  have hlen := r.length
  refine ⟨"list", _, slot_list_getitem.lookup, ht.isList.typeIs, ?_⟩
  refine wpAny_getItem_list_slice ht.isList hs pl pu .none (by simp) ?_ (by rw [List.size_toArray] <;> omega)
  rw [slicePick_cut, ← hlen]
  refine ⟨.ref s.heap.objs.size, _, I.laid (t' := s.toks) (o := .lst (cutV xs lo hi)) (fun b ob q => Heap.get?_push_of_some _ q) (Nat.le_refl _) ?_, rfl, q _ (I.hok.fresh (Nat.le_refl _))⟩
  exact ⟨Nat.le_trans (cutV_length xs lo hi) hz, _, 0, (r.drop (HT.sIx xs.length 0 lo)).take (HT.sIx xs.length xs.length hi - HT.sIx xs.length 0 lo), Heap.get?_push_size _ rfl⟩

/-! ### in, not in: flat items -/
/-! ### len, list(x), tuple(x) of any list or tuple that is read -/
theorem call_len_seq : CallR X (.builtin "len") (fun xs H Q => ∃ p ys, xs = [.ref p] ∧ (SqL X.K H p ys ∨ SqT X.K H p ys) ∧ Q (.int ys.length) H) := by
  intro pins s σ H xs us Q I r h
  obtain ⟨p, ys, rfl, hq, q⟩ := h
  obtain ⟨u, rfl, rx⟩ := vals1 r
  cases rx
  have hn := line63
  rcases hq with hq | hq
  · obtain ⟨its, r', pl, hz⟩ := I.list hq
    have hlen := r'.length
    exact Calls.call_len_list pl.isList (by simp only [List.size_toArray] <;> omega) ⟨.int ys.length, H, I.tok _, ⟨s.toks + 1, by rw [List.size_toArray, hlen]⟩, q⟩
  · obtain ⟨its, r', pl, hz⟩ := I.tuple hq
    have hlen := r'.length
    exact len_tuple pl (by simp only [List.size_toArray] <;> omega) ⟨.int ys.length, H, I.tok _, ⟨s.toks + 1, by rw [List.size_toArray, hlen]⟩, q⟩
theorem call_len_str : CallR X (.builtin "len") (fun xs H Q => ∃ z, xs = [.str z] ∧ z.length ≤ sizeLine ∧ Q (.int z.length) H) := by
  intro pins s σ H xs us Q I r h
  obtain ⟨z, rfl, hz, q⟩ := h
  obtain ⟨u, rfl, t, rfl⟩ := vals1 r
  have hn := line63
  exact len_str (by omega) ⟨.int z.length, H, I.tok _, ⟨_, rfl⟩, q⟩
theorem call_list_of : CallR X (.type "list") (fun xs H Q => ∃ p ys, xs = [.ref p] ∧ (SqL X.K H p ys ∨ SqT X.K H p ys) ∧ ∀ l, H l = none → Q (.ref l) (upd H l (.lst ys))) := by
  intro pins s σ H xs us Q I r h
  obtain ⟨p, ys, rfl, hq, q⟩ := h
  obtain ⟨u, rfl, rx⟩ := vals1 r
  cases rx
  have fin : ∀ (its : List Value), Vals ys its → ys.length ≤ sizeLine → ∀ (h' : Heap) (c' : Nat), (∀ b o', s.heap.get? b = some o' → h'.get? b = some o') →
      h'.get? s.heap.objs.size = some { cls := .type "list", dict := none, data := .seq its.toArray c', slots := #[] } → EP X pins σ Q (.ref s.heap.objs.size) { s with heap := h' } := fun its r' hz h' c' kp e =>
    ⟨.ref s.heap.objs.size, _, I.laid (t' := s.toks) kp (Nat.le_refl _) (show ObjOk X.prog X.w _ h' _ (.lst ys) from ⟨hz, its, c', r', e⟩), rfl, q _ (I.hok.fresh (Nat.le_refl _))⟩
  rcases hq with hq | hq
  · obtain ⟨its, r', pl, hz⟩ := I.list hq
    have hlen := r'.length
    obtain ⟨o, ho, hc, n, hd⟩ := pl.isList
    exact call_list_seq p (.inl rfl) ho hc hd (fun h' c' kp e => fin its r' hz h' c' kp e) (by simp only [List.size_toArray] <;> omega)
  · obtain ⟨its, r', pl, hz⟩ := I.tuple hq
    have hlen := r'.length
    obtain ⟨o, ho, hc, n, hd⟩ := pl
    exact call_list_seq p (.inr rfl) ho hc hd (fun h' c' kp e => fin its r' hz h' c' kp e) (by simp only [List.size_toArray] <;> omega)
/-! ### the call of a builtin's method: o.m(..) -/
noncomputable def tyV (K : PySem.W.Frag) (T : String) (x : V) (H : Hp) : Prop := match x with
  | .str _ => T = "str"
  | .int _ => T = "int"
  | .ref p => (T = "list" ∧ ∃ xs, SqL K H p xs) ∨ (T = "tuple" ∧ ∃ o, K.lookup p = some o ∧ o.cls = .type "tuple" ∧ o.dict = none) ∨
      (T = "dict" ∧ ((∃ kvs, H p = some (.dK kvs)) ∨ ∃ kvs, H p = some (.dT kvs))) ∨ (T = "set" ∧ ∃ S n, H p = some (.set S n))
  | _ => False
theorem tyV_is {pins : List (Addr × Obj)} {σ : St} {H : Hp} {s : Shared} {T : String} {x : V} {v : Value} (I : Inv X pins σ H s) (r : RelV x v) (ty : tyV X.K T x H) :
    s.TypeIs v T ∧ ∀ a, v = .ref a → ∃ ob, s.heap.get? a = some ob ∧ ob.dict = none := by
  cases x with
  | str z =>
    obtain ⟨t, rfl⟩ := r
    cases (show T = "str" from ty)
    exact ⟨typeIs_str s z t, fun _ e => nomatch e⟩
  | int i =>
    obtain ⟨t, rfl⟩ := r
    cases (show T = "int" from ty)
    exact ⟨typeIs_int s i t, fun _ e => nomatch e⟩
  | ref p =>
    cases r
    rcases ty with ⟨rfl, xs, hq⟩ | ⟨rfl, o, hk, hc, hd⟩ | ⟨rfl, hk⟩ | ⟨rfl, S, n, hk⟩
    · obtain ⟨its, _, pl, _⟩ := I.list hq
      refine ⟨pl.isList.typeIs, fun a e => ?_⟩
      cases e
      obtain ⟨o, n, e, c, hd, _⟩ := pl
      exact ⟨o, e, hd⟩
    · refine ⟨⟨o, I.kIn p o hk, hc⟩, fun a e => ?_⟩
      cases e
      exact ⟨o, I.kIn _ o hk, hd⟩
    · have z : ∃ o, s.heap.get? p = some o ∧ o.ExactDict := by
        rcases hk with ⟨kvs, hk⟩ | ⟨kvs, hk⟩
        · obtain ⟨_, _, _, _, o, _, _, e, ex, _⟩ := I.hok p _ hk
          exact ⟨o, e, ex⟩
        · obtain ⟨_, _, _, _, o, _, _, e, ex, _⟩ := I.hok p _ hk
          exact ⟨o, e, ex⟩
      obtain ⟨o, e, ex⟩ := z
      refine ⟨⟨o, e, ex.1⟩, fun a e2 => ?_⟩
      cases e2
      exact ⟨o, e, ex.2.1⟩
    · obtain ⟨o, _, _, _, e, ex, _⟩ := I.hok p _ hk
      refine ⟨⟨o, e, ex.1⟩, fun a e2 => ?_⟩
      cases e2
      exact ⟨o, e, ex.2.1⟩
  | _ => exact False.elim ty
noncomputable def tBM (K : PySem.W.Frag) (T : String) (r : V → List V → Hp → VK → Prop) (to : TE) (t : TA) : TE := fun σ H Q => to σ H fun x H1 => tyV K T x H1 ∧ t σ H1 fun xs H2 => r x xs H2 Q
variable {o e : Expr} {es : List Expr} {to : TE} {t : TA} {name : Str} {apos cpos : Pos} {T id : String} {r : V → List V → Hp → VK → Prop}
theorem pe_bm (pa : PlainAttrs T) (slot : Slot T name id) (hty : typeOf (.builtin id) = pure (.type "method_descriptor")) (hm : MtR X id r) (ho : PE X o to) (ha : PA X (e :: es) t)
    (hbase : attributeBase o name X.env (eval o X.env) = eval o X.env := by rfl)
    (hfew : ((backTo cpos (starEach (e :: es) X.env)).all (fun x => !x.1) && (backToKw cpos (keywordEach [] X.env)).all (fun x => x.1.isSome)
      && decide ((e :: es).length + ([] : List Keyword).length + (if ([] : List Keyword).isEmpty then 0 else 1) < 30)) = true := by rfl)
    (hline : (apos.endLine == cpos.line) = true := by rfl) (hs : starEach (e :: es) X.env = (false, eval e X.env) :: starEach es X.env := by rfl) (hplain : (backTo cpos (starEach es X.env)).any (·.1) = false := by rfl) :
    PE X (.Call (.Attribute o name apos) (e :: es) [] cpos) (tBM X.K T r to t) := by
  intro pins s σ H Q I h
  refine wpAny_Call_method_late hbase hfew hline rfl (thn (ho pins s σ H _ I h) fun v s1 ⟨x, H1, I1, r1, ty, q1⟩ => ?_)
  obtain ⟨h1, h2⟩ := tyV_is I1 r1 ty
  refine ⟨T, id, pa, slot, hty, h1, h2, ?_⟩
  have hA := ha cpos pins s1 σ H1 _ I1 q1
  rw [hs] at hA ⊢
  refine Calls.callWith_builtin (by show (false || (backTo cpos (starEach es X.env)).any (·.1)) = false; rw [hplain] <;> rfl) (Calls.evalArgs_plain ?_)
  exact thn hA fun us s2 ⟨vs, H2, I2, r2, q2⟩ => hm pins s2 σ H2 x vs v us Q I2 r1 r2 q2
/- xs.append(e), list.index on a module's tuple .. are MtR facts of 06m -/
end
end L2
namespace L2
open PySem PySem.Spec PyProof.Rows
noncomputable def MtM (X : Cx) (id : String) (r : V → List V → Hp → VK → Prop) : Prop :=
  ∀ (pins : List (Addr × Obj)) (s : Shared) (σ : St) (H : Hp) (x : V) (xs : List V) (v : Value) (us : List Value) (Q : VK), Inv X pins σ H s → RelV x v → Vals xs us → r x xs H Q →
    wpAny (model X.prog X.w) X.A (call (.builtin id) (v :: us)) (EP X pins σ Q) X.xe s

/-! ### lists of values -/
theorem Vals.one : ∀ {x : V} {us : List Value}, Vals [x] us → ∃ u, us = [u] ∧ RelV x u
  | _, _, .cons r .nil => ⟨_, rfl, r⟩
theorem Vals.dropLast {xs : List V} {us : List Value} (h : Vals xs us) : Vals xs.dropLast us.dropLast := by
  induction h with
  | nil => exact .nil
  | cons r t ih =>
    cases t with
    | nil => exact .nil
    | cons q t' => exact .cons r ih
theorem Vals.eraseIdx : ∀ {xs : List V} {us : List Value} (i : Nat), Vals xs us → Vals (xs.eraseIdx i) (us.eraseIdx i)
  | _, _, _, .nil => .nil
  | _, _, 0, .cons _ t => t
  | _, _, i + 1, .cons r t => .cons r (Vals.eraseIdx i t)
theorem erase_last {α : Type} (l : List α) : l.eraseIdx (l.length - 1) = l.dropLast := by
  induction l with
  | nil => rfl
  | cons a r ih =>
    cases r with
    | nil => rfl
    | cons b r =>
      have e : (a :: b :: r).length - 1 = ((b :: r).length - 1) + 1 := by
        have h1 : (a :: b :: r).length = r.length + 2 := rfl
        have h2 : (b :: r).length = r.length + 1 := rfl
        omega
      rw [e, List.eraseIdx_cons_succ, ih]
      all_goals rfl
section
variable {X : Cx} {pins : List (Addr × Obj)} {σ : St} {H : Hp} {s : Shared} {l b : Addr} {xs ys zs : List V}
/-! ### the two steps: a tracked list is rewritten, a new list is laid -/
theorem Inv.lset {its its' : List Value} {n : Nat} {f : Array Value → Array Value} {t' : Nat} (I : Inv X pins σ H s) (hH : H l = some (.lst xs))
    (e : s.heap.get? l = some { cls := .type "list", data := .seq its.toArray n }) (hf : f its.toArray = its'.toArray) (hv : Vals ys its') (hz : ys.length ≤ sizeLine) :
    Inv X pins σ (upd H l (.lst ys)) { s with heap := s.heap.update l (Obj.mapSeq f), toks := t' } := by
  have q := PySem.IsL.update e f
  rw [hf] at q
  refine I.write (x := l) (e := l) (by rw [hH]; exact trivial) (.inl rfl) (fun b' u hb hu => (Heap.get?_update_other s.heap (Obj.mapSeq f) (Ne.symm hb)).trans hu) ⟨_, q⟩ ?_
  exact ⟨hz, its', _, hv, q⟩
theorem Inv.lnew {its : List Value} {t' : Nat} (I : Inv X pins σ H s) (hv : Vals ys its) (hz : ys.length ≤ sizeLine) :
    Inv X pins σ (upd H s.heap.objs.size (.lst ys)) { s with heap := s.heap.push { cls := .type "list", data := .seq its.toArray }, toks := t' } :=
  I.laid (fun _ _ q => Heap.get?_push_of_some _ q) (Nat.le_refl _) ⟨hz, its, 0, hv, Heap.get?_push_size _ rfl⟩
theorem Inv.fresh (I : Inv X pins σ H s) : H s.heap.objs.size = none := I.hok.fresh (Nat.le_refl _)
theorem Inv.lstM (I : Inv X pins σ H s) (hH : H l = some (.lst xs)) : xs.length ≤ sizeLine ∧ ∃ (its : List Value) (n : Nat), Vals xs its ∧ xs.length = its.length ∧ s.heap.get? l = some { cls := .type "list", data := .seq its.toArray n } := by
  obtain ⟨z, its, n, r, e⟩ := I.hok l _ hH
  exact ⟨z, its, n, r, r.length, e⟩

theorem notLongL {n : Nat} (h : n ≤ sizeLine) : Builtin.List.listTooLong n = false := by
  unfold Builtin.List.listTooLong
  exact decide_eq_false (by omega)
end
section
variable {X : Cx}
/-! ### methods -/
noncomputable def rAppend : V → List V → Hp → VK → Prop := fun x vs H Q => ∃ l xs y, x = .ref l ∧ vs = [y] ∧ H l = some (.lst xs) ∧ xs.length < sizeLine ∧ Q .non (upd H l (.lst (xs ++ [y])))
theorem mt_append : MtM X "list.append" rAppend := by
  intro pins s σ H x vs v us Q I rx rv h
  obtain ⟨l, xs, y, rfl, rfl, hH, hz, q⟩ := h
  cases rx
  obtain ⟨u, rfl, ru⟩ := rv.one
  obtain ⟨z, its, n, r, hl, e⟩ := I.lstM hH
  refine call_meets F.slot_list_append ⟨_, e, rfl⟩ F.entry_list_append (F.args_list_append_2 _ _) (PySem.list_append l its.toArray n u (by rw [List.size_toArray]; omega)) ⟨e, ?_⟩
  refine ⟨.non, _, I.lset (its' := its ++ [u]) hH e (by simp) (r.append (.cons ru .nil)) ?_, rfl, q⟩
  rw [List.length_append, List.length_singleton]
  omega

noncomputable def rExtend : V → List V → Hp → VK → Prop := fun x vs H Q => ∃ l b xs zs, x = .ref l ∧ vs = [.ref b] ∧ H l = some (.lst xs) ∧ H b = some (.lst zs) ∧ xs.length + zs.length ≤ sizeLine ∧ Q .non (upd H l (.lst (xs ++ zs)))
theorem mt_extend : MtM X "list.extend" rExtend := by
  intro pins s σ H x vs v us Q I rx rv h
  obtain ⟨l, b, xs, zs, rfl, rfl, hH, hB, hz, q⟩ := h
  cases rx
  obtain ⟨u, rfl, ru⟩ := rv.one
  cases ru
  obtain ⟨z, its, n, r, hl, e⟩ := I.lstM hH
  obtain ⟨z2, its2, n2, r2, hl2, e2⟩ := I.lstM hB
  have hsz : its.toArray.size + its2.toArray.size ≤ sizeLine := by rw [List.size_toArray, List.size_toArray]; omega
  have hlong : ¬ (!its.toArray.isEmpty && Builtin.List.listTooLong (its.toArray.size + its2.toArray.size)) = true := by
    rw [notLongL hsz, Bool.and_false]
    exact Bool.false_ne_true
  refine call_meets F.slot_list_extend ⟨_, e, rfl⟩ F.entry_list_extend (F.args_list_extend_2 _ _)
    (AutoSeq1.list_extend_list_list_0 l its.toArray n b its2.toArray n2 hlong (by rw [List.size_toArray]; omega) (by omega)) ⟨e, e2, ?_⟩
  refine ⟨.non, _, I.lset (its' := its ++ its2) hH e (by simp) (r.append r2) ?_, rfl, q⟩
  rw [List.length_append]
  omega

/-! ### list + list, list += list, list * int -/
noncomputable def rCat : R2 := fun x y H Q => ∃ l b xs zs, x = .ref l ∧ y = .ref b ∧ H l = some (.lst xs) ∧ H b = some (.lst zs) ∧ xs.length + zs.length ≤ sizeLine ∧ ∀ p, H p = none → Q (.ref p) (upd H p (.lst (xs ++ zs)))
theorem op_cat : OpR X (binaryOp .Add) rCat := by
  intro pins s σ H x y v u Q I rx ry h
  obtain ⟨l, b, xs, zs, rfl, rfl, hH, hB, hz, q⟩ := h
  cases rx
  cases ry
  obtain ⟨z, its, n, r, hl, e⟩ := I.lstM hH
  obtain ⟨z2, its2, n2, r2, hl2, e2⟩ := I.lstM hB
  refine PySem.P.add_list e e2 ?_ (by rw [List.size_toArray, List.size_toArray]; omega)
  have ea : its.toArray ++ its2.toArray = (its ++ its2).toArray := by simp
  rw [ea]
  exact ⟨.ref _, _, I.lnew (t' := s.toks) (r.append r2) (by rw [List.length_append]; omega), rfl, q _ I.fresh⟩
/-! ### del xs[i] -/
end
/-! ### xs[a:b] = ys -/
section
variable {prog : Program} {w : World} {A : Around} {E : Value → Shared → Prop} {s : Shared}
set_option maxRecDepth 100000 in
end
section
variable {X : Cx}
end
end L2
namespace Att
open PySem PySem.W PySem.Calls PyProof.Rows
/-! ### the script -/
theorem ints_of_wellAll {P : Params} {h : Heap} : ∀ (ns : List Int) (vs : List Value), WellAll P h vs (ns.map WData.int) → IntsAre vs ns := by
  intro ns
  induction ns with
  | nil =>
    intro vs w
    rw [List.map_nil] at w
    cases w
    exact .nil
  | cons n ns ih =>
    intro vs w
    rw [List.map_cons] at w
    cases w with
    | cons a b =>
      cases a
      exact .cons _ _ (ih _ b)

theorem script_of {l : OpenLaw} {n : Nat} (hn : l.most = some n) {P : Params} {h : Heap} {args : List WData} {vals : List Value}
    (hpre : l.row.toRowW.claim.pre args = true) (hwl : WellAll P h vals args) :
    ∃ a vs ns, vals = [Value.ref a] ∧ args = [WData.list (ns.map WData.int)] ∧ h.get? a = some { cls := .type "list", data := .seq vs.toArray } ∧ IntsAre vs ns ∧ ns.length ≤ n := by
  have hsh : WShape.hasAll [] args [.list .int] = true := (pre_splitW hpre).1
  have hc : l.pre.holds [] { args := args } = true := (pre_splitW hpre).2
  obtain ⟨d, r, rfl, h1, h2⟩ := hasAllW_cons hsh
  obtain rfl := hasAllW_nil h2
  obtain ⟨xs, rfl, h3⟩ := hasW_list h1
  obtain ⟨ns, rfl⟩ := items_int h3
  have hlen : ns.length ≤ n := by
    unfold OpenLaw.pre at hc
    have h4 : (WTm.not (.lt (.lit (.int (n : Int))) (.len (.arg 0)))).holds [] { args := [.list (ns.map .int)] } = true := by
      have h4 := (holds_andW hc).1
      rw [hn] at h4
      exact h4
    have h5 := condW_of h4 (w_not (w_lt w_lit (w_len_list (w_arg rfl))))
    rw [List.length_map] at h5
    refine Nat.le_of_not_lt fun q => ?_
    have q' : (n : Int) < ((ns.length : Nat) : Int) := by omega
    first
      | (rw [decide_eq_true q'] at h5; exact absurd h5 (by decide))
      | (simp at h5; omega)
  cases hwl with
  | cons w1 w2 =>
    cases w2
    cases w1 with
    | list ho hall => exact ⟨_, _, ns, rfl, rfl, ho, ints_of_wellAll ns _ hall, hlen⟩

theorem post_true (l : OpenLaw) (args : List WData) : l.row.toRowW.claim.post args (.bool true) args = true :=
  postW_of (r := l.row.toRowW) (X := (true == true))
    (show WShape.has [] (.bool true) .bool = true by first | rfl | decide | simp [WShape.has, WShape.arms, WShape.armsAll])
    (show (WTm.eq .res (.lit (.bool true))).value [] { args := args, res := some (.bool true), after := args } = some (.bool (true == true)) from w_eq_bool (w_res rfl) w_lit) rfl

/-! ### the attachment: holds_open's last premise (the goal 'hc' behind k_head) from a wpAny of the law's body -/
theorem attach_call {l : OpenLaw} {n : Nat} {q : Program} {loose : List Str} {XP : (Str → Option Value) → Heap → Prop} {YP : World → Heap → Prop} {d : DefRec}
    (hn : l.most = some n) (hdf : d.params.defaults = [])
    (call : ∀ (w : World) (s₀ s₁ : Shared) (mg mb : Str → Option Value) (fa : Addr) (o : Obj) (pm cd doc : Value) (a : Addr) (vs : List Value) (ns : List Int),
      Ground q loose [] XP w s₀ mg mb s₁.heap → YP w s₁.heap →
      s₁.heap.get? fa = some o → o.data = .func (docDef d.name d.params d.body d.scope pm cd doc) → s₁.heap.CodeRec cd d.name → mg d.name = some (.ref fa) →
      s₁.heap.get? a = some { cls := .type "list", data := .seq vs.toArray } → IntsAre vs ns → ns.length ≤ n → s₁.gens = #[] →
      codeAny (model l.prog w) callerA (.call (.ref fa) ⟨[.ref a], []⟩) (fun r s' => r = .ok (.ret (.bool true)) ∧ OldK s₁.heap s'.heap ∧ s'.os = s₁.os ∧ AllBare s'.gens) s₁) :
    WalkO q loose XP YP l.row.toRowW d [] (fun f vs => PySem.call f vs) := by
  intro w s₀ s₁ mg mb G Y fa o pm cd doc dV kV ho hd hcd hD hmg hg args vals as hpre hlay hrd hwl hlo
  obtain rfl : dV = .none := Dflts.none hD hdf
  obtain rfl : kV = .none := Dflts.noKw hD
  obtain ⟨a, vs, ns, rfl, rfl, hobj, hints, hlen⟩ := script_of hn hpre hwl
  refine enter_call (codeAny_mono (call w s₀ s₁ mg mb fa o pm cd doc a vs ns G Y ho (fd_plain hd) hcd hmg hobj hints hlen hg) fun r s' hq => ?_)
  obtain ⟨rfl, h2, h3, h4⟩ := hq
  exact ⟨.inl ⟨.bool true, .bool true, [], rfl, fun _ => rfl, .bool true, post_true l _, fun _ => ⟨List.Pairwise.nil, fun _ hm => (nomatch hm)⟩⟩, h2, h3, h4⟩

/-! ### rules over ANY heap (no ledger) from facts about the written part K: the library's own take a ledger (News) for what they write -/
section
variable {prog : Program} {w : World} {A : Around} {E : Value → Shared → Prop} {s : Shared} {K : Frag}
/-! the whole heap as the ledger: makes every rule that writes through a ledger a rule over any heap -/
noncomputable def ledger (h : Heap) (L d : Addr) : List (Addr × Obj) := (List.range h.objs.size).filterMap fun a => if a = L ∨ a = d then none else (h.get? a).map fun o => (a, o)
end
end Att
namespace L2
open PySem PySem.Spec PyProof.Rows
theorem vals_ints : ∀ {vs : List Value} {ns : List Int}, IntsAre vs ns → Vals (ns.map V.int) vs
  | _, _, .nil => .nil
  | _, _, .cons n t h => .cons ⟨t, rfl⟩ (vals_ints h)

noncomputable def Only (H : Hp) : Prop := ∀ b, H b = none ∨ ∃ o xs, H b = some (.frz o (.lst xs))

theorem law_call {P : Program} {w : World} {K : PySem.W.Frag} {mg mb : Str → Option Value} {CX : CXT} {k : Nat} {fa a : Addr} {fd : FuncData} {x : Str} {sp : Sp} {s₁ : Shared} {vs : List Value} {ns : List Int}
    (KX : K.In s₁.heap) (hns : s₁.heap.Ns mainGlobals mg) (hb : s₁.heap.Ns builtinsNs mb) (hbb : ∀ x : Str, x ≠ "__name__" → mb x = bootBuiltins x) (hlim : s₁.heap.NoLimit) (hg : s₁.gens = #[])
    (ha : s₁.heap.get? a = some { cls := .type "list", data := .seq vs.toArray }) (hi : IntsAre vs ns) (hl : ns.length ≤ sizeLine) (hr : Room k callerA)
    (F : ∀ base : Heap, K.In base → base.Ns mainGlobals mg → FnOk P w K mg base CX k fa fd [x] sp) (hbind : ∀ (s : Shared) (u : Value), BindsTo s fd ⟨[u], []⟩ [(x, u)])
    (hsp : ∀ H : Hp, Only H → SqL K H a (ns.map V.int) → sp [.ref a] H (fun v _ => v = .bl true) fun _ _ _ => False)
    (hCX : ∀ H e s', CX [] H s₁ (fun _ _ _ => False) e s' → False) :
    codeAny (model P w) callerA (.call (.ref fa) ⟨[.ref a], []⟩) (fun r s' => r = .ok (.ret (.bool true)) ∧ OldK s₁.heap s'.heap ∧ s'.os = s₁.os ∧ AllBare s'.gens) s₁ := by
  have rv := vals_ints hi
  have lenV := hi.length
  -- from an abstract heap in which nothing but the script may be tracked
  have core : ∀ H : Hp, Only H → SqL K H a (ns.map V.int) → HOk P w H s₁.heap → (∀ b, H b ≠ none → b = a) → (H a ≠ none → K.lookup a = none) →
      codeAny (model P w) callerA (.call (.ref fa) ⟨[.ref a], []⟩) (fun r s' => r = .ok (.ret (.bool true)) ∧ OldK s₁.heap s'.heap ∧ s'.os = s₁.os ∧ AllBare s'.gens) s₁ := by
    intro H hO hS hok hA hK
    have base_of : ∀ {b : Addr} {o : Obj}, s₁.heap.get? b = some o → H b = none → (hidT s₁.heap H).get? b = some o := fun e n => hidT_get e n
    have noA : ∀ {b : Addr} {o : Obj} {es : Array DictEntry} {ep : Nat}, s₁.heap.get? b = some o → o.data = .dict es ep → H b = none := fun {b o es ep} e d => by
      cases q : H b with
      | none => rfl
      | some u =>
        have e' : b = a := hA b (by rw [q]; simp)
        subst e'
        rw [ha] at e; cases e
        have d' : Data.seq vs.toArray _ = Data.dict es ep := d
        cases d'
    have nsK : ∀ {b : Addr} {m : Str → Option Value}, s₁.heap.Ns b m → (hidT s₁.heap H).Ns b m := fun {b m} ⟨o, es, ep, e, d, r⟩ => ⟨o, es, ep, base_of e (noA e d), d, r⟩
    have hKb : K.In (hidT s₁.heap H) := fun b o e => base_of (KX b o e) (by
      cases q : H b with
      | none => rfl
      | some u =>
        have e' : b = a := hA b (by rw [q]; simp)
        subst e'
        rw [hK (by rw [q]; simp)] at e; cases e)
    have hM : Mod K mg (hidT s₁.heap H) := ⟨hKb, nsK hns, ⟨mb, nsK hb, hbb⟩, let ⟨mc, h1, h2⟩ := hlim; ⟨mc, nsK h1, h2⟩⟩
    have e0 : Env0 P w K mg (hidT s₁.heap H) callerA [] s₁ H := ⟨rfl, hM, fun b o e => of_hidT e, Nat.le_of_eq (hidT_size _ _), trivial, fun b hb => absurd (show b ∈ ([] : List Addr) from hb) (by simp), hok, .of_eq hg⟩
    refine codeAny_mono ((F _ hKb (nsK hns)).run callerA [] s₁ H ⟨[.ref a], []⟩ [.ref a] [.ref a] _ _ hr e0 (hbind s₁ (.ref a)) (.cons rfl .nil) (hsp H hO hS)) fun r s' h => ?_
    cases r with
    | error e => exact (hCX H e s' h).elim
    | ok fl =>
      cases fl with
      | next => exact False.elim h
      | brk => exact False.elim h
      | cont => exact False.elim h
      | ret u =>
        obtain ⟨v, H', os, bare, un, hok', r', q⟩ := h
        have q' : v = .bl true := q
        subst q'
        obtain rfl : u = Value.bool true := r'
        refine ⟨rfl, OldK.of_keep fun b o e => ?_, os, bare⟩
        cases q : H b with
        | none => exact un.keep b o e q (by intro z; exact absurd (show b ∈ ([] : List Addr) from z) (by simp)) (by simp)
        | some u =>
          rcases hO b with z | ⟨ob, xs, z⟩
          · rw [q] at z; cases z
          · have z2 := un.frzs b ob _ z
            obtain ⟨e1, _⟩ := hok b _ z
            obtain ⟨e2, _⟩ := hok' b _ z2
            rw [e] at e1; cases e1
            exact e2
  cases hk : K.lookup a with
  | some o =>
    -- the script is one of the module's own objects
    have e := KX a o hk
    rw [ha] at e
    cases e
    refine core (fun _ => none) (fun _ => .inl rfl) (.inr ⟨_, vs.toArray, _, hk, rfl, rfl, rfl, by rw [List.size_toArray, lenV]; exact hl, by simpa using rv⟩) (fun b u z => by have z' : (none : Option HO) = some u := z; cases z') (fun b z => absurd rfl z) fun z => absurd rfl z
  | none =>
    refine core (fun b => if b = a then some (.frz { cls := .type "list", data := .seq vs.toArray } (.lst (ns.map V.int))) else none) (fun b => ?_) (.inl (.inr ⟨{ cls := .type "list", data := .seq vs.toArray }, if_pos rfl⟩)) (fun b u z => ?_) (fun b z => ?_) fun _ => hk
    · by_cases hb : b = a
      · exact .inr ⟨_, _, if_pos hb⟩
      · exact .inl (if_neg hb)
    · by_cases hb : b = a
      · have z' := (if_pos hb).symm.trans z
        cases z'
        subst hb
        exact ⟨ha, by rw [List.length_map]; exact hl, vs, _, rv, ha⟩
      · have z' := (if_neg hb).symm.trans z
        cases z'
    · by_cases hb : b = a
      · exact hb
      · exact absurd (if_neg hb) z
end L2
namespace L2
open PySem PySem.Spec PyProof.Rows
noncomputable abbrev KOf {K : PySem.W.Frag} {h : Heap} (_ : K.In h) : PySem.W.Frag := K

theorem walk_of {l : PySem.W.OpenLaw} {n k : Nat} {q : Program} {loose : List Str} {XP : (Str → Option Value) → Heap → Prop} {YP : World → Heap → Prop} {d : DefRec} {K : Params → PySem.W.Frag} {CX : World → CXT} {sp : World → Sp} {x : Str}
    (hn : l.most = some n) (hn2 : n ≤ sizeLine) (hdf : d.params.defaults = []) (hr : Room k callerA)
    (hY : ∀ (w : World) (h : Heap), YP w h → (K w.params).In h)
    (F : ∀ (w : World) (mg : Str → Option Value) (fa : Addr) (h : Heap), (K w.params).In h → h.Ns mainGlobals mg → mg d.name = some (.ref fa) →
      ∃ fd : FuncData, (∀ (s : Shared) (u : Value), BindsTo s fd ⟨[u], []⟩ [(x, u)]) ∧
        ∀ base : Heap, (K w.params).In base → base.Ns mainGlobals mg → FnOk l.prog w (K w.params) mg base (CX w) k fa fd [x] (sp w))
    (hsp : ∀ (w : World) (H : Hp) (a : Addr) (ns : List Int), ns.length ≤ n → Only H → SqL (K w.params) H a (ns.map V.int) → sp w [.ref a] H (fun v _ => v = .bl true) fun _ _ _ => False)
    (hCX : ∀ (w : World) (H : Hp) (s : Shared) (e : Value) (s' : Shared), CX w [] H s (fun _ _ _ => False) e s' → False) :
    PySem.W.WalkO q loose XP YP l.row.toRowW d [] (fun f vs => PySem.call f vs) := by
  refine Att.attach_call hn hdf fun w s₀ s₁ mg mb fa o pm cd doc a vs ns G Y ho hd hcd hmg hobj hints hlen hg => ?_
  have KX := hY w _ Y
  obtain ⟨fd, hb, hF⟩ := F w mg fa _ KX G.T.g hmg
  exact law_call KX G.T.g G.T.b G.T.builtins G.T.nolimit hg hobj hints (Nat.le_trans hlen hn2) hr hF hb (fun H hO hS => hsp w H a ns hlen hO hS) fun H e s' => hCX w H s₁ e s'
end L2
/- THE LAST THEOREM (shape; LID, My.* are yours):
   My.Adr: a structure of the addresses that your layer names (classes, functions); My.Txt K t: a structure (Prop) of the equations over K;
   My.txt_mk : {K} {implicit addresses ..} (e1 : nsIn K mainGlobals "law" = some (some (.ref f))) (e2 : K.lookup f = some ⟨oc, od, .func (fnOf "law" "law" params body scope dV kV doc pm an cdv ct), sl⟩) (e3 : codeIn K cdv "law" = true) .. : ∃ t, My.Txt K t

set_option maxRecDepth 100000 in
set_option maxHeartbeats 0 in
theorem PySem.Challenge.cw_LID_holds : PySem.Challenge.rw_LID.Holds := by
  w_on; o_law; k_head; (case hw => w_witness2)
  k_fill
  refine L2.walk_of (l := PySem.Challenge.rw_LID) (n := 63) (k := 40) (x := "script") (CX := fun w => ..) (sp := fun _ => My.sp_law) rfl (by decide) rfl ⟨rfl, by decide, by decide⟩ (fun w h Y => PySem.W.kIn_of Y) ?F ?S ?C
  case F =>
    intro w mg fa h KX G hmg
    have T : ∃ t, My.Txt (L2.KOf KX) t := by
      dsimp only [L2.KOf]                          -- K must stand as «<heap const> w.params» for k_is
      refine' My.txt_mk ?e1 ?e2 ?e3 ..
      (case e1 => PySem.W.k_is)                    -- in the order: a name -> its address -> its object -> its parts
      (case e2 => PySem.W.k_is)
      ..
    obtain ⟨t, T⟩ := T
    have e0 := hmg.symm.trans (PySem.W.mg_of KX G T.law)
    cases e0                                       -- fa is the law's own address
    exact ⟨_, fun s u => .of_eq rfl, fun base kb nb => My.law_fn T kb nb⟩     -- if «.of_eq rfl» comes too early: refine' ⟨_, ?b, fun base kb nb => My.law_fn T kb nb⟩; exact fun s u => .of_eq rfl
  case S => exact fun w H a ns hl hO hS => ..
  case C => exact ..
(the tactic k_is has no namespace: write k_is) -/
/-! SHORT WORDS over the layer: a def of the text, its body, what a loop and a test want. -/
namespace L2
open PySem PySem.Spec PyProof.Rows
/-! ### the text by places -/
noncomputable def inClass (s : Stmt) (j : Nat) : Stmt := match s with
  | .ClassDef _ _ _ body _ _ _ _ _ _ _ => body.getD j (.Pass ⟨0, 0, 0, 0⟩)
  | _ => .Pass ⟨0, 0, 0, 0⟩
noncomputable def defArgs (s : Stmt) : Arguments := match s with
  | .FunctionDef _ a _ _ _ _ _ _ _ _ => a
  | _ => { posonlyargs := [], args := [], vararg := none, kwonlyargs := [], kw_defaults := [], kwarg := none, defaults := [] }
noncomputable def defBody (s : Stmt) : List Stmt := match s with
  | .FunctionDef _ _ b _ _ _ _ _ _ _ => b
  | _ => []
noncomputable def defScope (s : Stmt) : Scope := match s with
  | .FunctionDef _ _ _ _ _ _ sc _ _ _ => sc
  | _ => { kind := .function, names := [], isGenerator := false, isCoroutine := false }

/-! ### no exception leaves a def -/
noncomputable abbrev CX0 : CXT := fun _ _ _ _ _ _ => False
noncomputable abbrev E0 : St → XK := fun _ _ _ _ => False
/-! ### a def (or method) of the text as it stands behind the top -/
structure Fun (K : PySem.W.Frag) (x qual : Str) (st : Stmt) (f : Addr) (fd : FuncData) : Prop where
  ex : ∃ (oc : Value) (od : Option Addr) (kV doc pm : Value) (an : Option Addr) (cdv ct : Value) (osl : Array (Option Value)),
    fd = PySem.W.fnOf x qual (defArgs st) (defBody st) (defScope st) .none kV doc pm an cdv ct ∧ K.lookup f = some ⟨oc, od, .func fd, osl⟩ ∧ PySem.W.codeIn K cdv qual = true
  kp : PySem.W.keepIn K (.ref f) = true
section
variable {P : Program} {w : World} {K : PySem.W.Frag} {mg : Str → Option Value} {base : Heap}
theorem Fun.ok {x qual : Str} {st : Stmt} {f : Addr} {fd : FuncData} {N ps : List Str} {k : Nat} {sp : Sp} (F : Fun K x qual st f fd) (S : FnScope N ps (defScope st)) (len : ∀ vs H Q E, sp vs H Q E → vs.length = ps.length)
    (hbody : ∀ (cdv : Value) (A : Around) (outer : List Env) (s : Shared) (H : Hp) (vs : List V) (Q : VK) (E : XK), Room k (A.deeper (envOfC qual (defScope st) s.heap.objs.size f cdv)) → sp vs H Q E →
      ∃ t, PSs (cxOf CX0 P w K mg base N qual (defScope st) f cdv A outer s H E).nox (defBody st) t ∧ t { nx := fun _ H' => Q .non H', rt := Q } (start N vs) H) : FnOk P w K mg base CX0 (k + 1) f fd ps sp := by
  obtain ⟨oc, od, kV, doc, pm, an, cdv, ct, osl, rfl, lk, hcd⟩ := F.ex
  refine fn_of lk hcd S len fun A outer s H vs Q E hr hsp => ?_
  obtain ⟨t, h, q⟩ := hbody cdv A outer s H vs Q E hr hsp
  exact ⟨t, h.nox, q⟩
theorem Fun.binds {x qual : Str} {st : Stmt} {f : Addr} {fd : FuncData} {ps : List Str} (F : Fun K x qual st f fd)
    (h : ∀ (kV doc pm : Value) (an : Option Addr) (cdv ct : Value) (us : List Value), us.length = ps.length → bindArgs (PySem.W.fnOf x qual (defArgs st) (defBody st) (defScope st) .none kV doc pm an cdv ct) ⟨us, []⟩ = pure (ps.zip us)) : Binds K fd ps [] := by
  obtain ⟨oc, od, kV, doc, pm, an, cdv, ct, osl, rfl, lk, hcd⟩ := F.ex
  exact .all (h kV doc pm an cdv ct)
theorem fun_mk {x qual : Str} {st : Stmt} {f : Addr} {oc : Value} {od an : Option Addr} {osl : Array (Option Value)} {kV doc pm cdv ct : Value} (l : K.lookup f = some ⟨oc, od, .func (PySem.W.fnOf x qual (defArgs st) (defBody st) (defScope st) .none kV doc pm an cdv ct), osl⟩)
    (c : PySem.W.codeIn K cdv qual = true) (k : PySem.W.keepIn K (.ref f) = true) : Fun K x qual st f (PySem.W.fnOf x qual (defArgs st) (defBody st) (defScope st) .none kV doc pm an cdv ct) := ⟨⟨oc, od, kV, doc, pm, an, cdv, ct, osl, rfl, l, c⟩, k⟩
end
theorem small1000 {n : Nat} (h : n ≤ 1000) : n < sizeLine := Nat.lt_of_le_of_lt h (by decide)

/-! ### expressions in short: the name that stands in the i-th slot -/
section
variable {X : Cx}
theorem pv (i : Nat) {x : Str} {pos : Pos} (hN : X.N[i]? = some x := by rfl) (hv : Vis X.env.scope x := by first | exact Or.inl rfl | exact Or.inr (Or.inl rfl) | exact Or.inr (Or.inr rfl)) (hd : (x == ("__debug__" : Str)) = false := by decide)
    (hcd : (x == ("__classdict__" : Str)) = false := by decide) : PE X (.Name x pos) (tVar i) := pe_var hN hv hd hcd
end
/-! ### tests -/
theorem iteF {A B : Prop} (h : B) : if false = true then A else B := by
  rw [if_neg Bool.false_ne_true]
  exact h
theorem iteT {A B : Prop} (h : A) : if true = true then A else B := by
  rw [if_pos rfl]
  exact h
theorem ite2 {c A B : Prop} [Decidable c] (h1 : c → A) (h2 : ¬ c → B) : if c then A else B := by
  by_cases h : c
  · rw [if_pos h]
    exact h1 h
  · rw [if_neg h]
    exact h2 h
/-! ### heaps -/
noncomputable def Same (H H' : Hp) : Prop := ∀ b o, H b = some o → H' b = some o
theorem Same.refl (H : Hp) : Same H H := fun _ _ h => h
theorem Same.trans {H H1 H2 : Hp} (a : Same H H1) (b : Same H1 H2) : Same H H2 := fun c o h => b c o (a c o h)
theorem Same.free {H H' : Hp} (e : Same H H') {l : Addr} (h : H' l = Option.none) : H l = Option.none := by
  cases q : H l with
  | none => rfl
  | some o =>
    rw [e l o q] at h
    cases h
end L2
-- MOD LayD
namespace L2
open PySem PySem.Spec PyProof.Rows
/-! ### lists of pairs as tables -/
section
variable {κ : Type} [DecidableEq κ]
noncomputable def valV (kvs : List (κ × V)) (k : κ) : Option V := (kvs.find? fun kv => decide (kv.1 = k)).map (·.2)
noncomputable def putK (kvs : List (κ × V)) (k : κ) (v : V) : List (κ × V) :=
  if (kvs.any fun kv => decide (kv.1 = k)) = true then kvs.map (fun kv => if kv.1 = k then (kv.1, v) else kv) else kvs ++ [(k, v)]
theorem KV.any {kvs : List (κ × V)} {vs : List (κ × Value)} (r : KV kvs vs) (k : κ) : (kvs.any fun kv => decide (kv.1 = k)) = vs.any fun kv => decide (kv.1 = k) := by
  unfold KV at r
  induction r with
  | nil => rfl
  | cons h t ih => rw [List.any_cons, List.any_cons, ih, h.1]
theorem KV.length {kvs : List (κ × V)} {vs : List (κ × Value)} (r : KV kvs vs) : kvs.length = vs.length := Paired.length r
end
/-! ### a tracked dict, its keys ints and texts or tuples of these -/
section
variable {P : Program} {w : World} {H : Hp} {h : Heap} {a : Addr}
end
noncomputable def DGet (H : Hp) (a : Addr) (y : V) (r : Option V) : Prop :=
  (∃ kvs k, Rd H a (.dK kvs) ∧ y = kV k ∧ r = valV kvs k) ∨ ∃ kvs k b, Rd H a (.dT kvs) ∧ y = .ref b ∧ H b = some (.tup (k.map kV)) ∧ r = valV kvs k
noncomputable def DPut (H : Hp) (a : Addr) (y v : V) (H' : Hp) : Prop :=
  (∃ kvs k, H a = some (.dK kvs) ∧ y = kV k ∧ kvs.length < sizeLine ∧ H' = upd H a (.dK (putK kvs k v))) ∨
  ∃ kvs k b, H a = some (.dT kvs) ∧ y = .ref b ∧ H b = some (.tup (k.map kV)) ∧ kvs.length < sizeLine ∧ H' = upd H a (.dT (putK kvs k v))
theorem DGet.k {H : Hp} {a : Addr} {kvs : List (Key × V)} {k : Key} (e : H a = some (.dK kvs)) : DGet H a (kV k) (valV kvs k) := .inl ⟨kvs, k, .inl e, rfl, rfl⟩
theorem DGet.t {H : Hp} {a b : Addr} {kvs : List (List Key × V)} {k : List Key} (e : H a = some (.dT kvs)) (eb : H b = some (.tup (k.map kV))) : DGet H a (.ref b) (valV kvs k) := .inr ⟨kvs, k, b, .inl e, rfl, eb, rfl⟩
theorem DPut.k {H : Hp} {a : Addr} {kvs : List (Key × V)} {k : Key} {v : V} (e : H a = some (.dK kvs)) (hl : kvs.length < sizeLine) : DPut H a (kV k) v (upd H a (.dK (putK kvs k v))) := .inl ⟨kvs, k, e, rfl, hl, rfl⟩
theorem DPut.t {H : Hp} {a b : Addr} {kvs : List (List Key × V)} {k : List Key} {v : V} (e : H a = some (.dT kvs)) (eb : H b = some (.tup (k.map kV))) (hl : kvs.length < sizeLine) :
    DPut H a (.ref b) v (upd H a (.dT (putK kvs k v))) := .inr ⟨kvs, k, b, e, rfl, eb, hl, rfl⟩


section
variable {X : Cx} {pins : List (Addr × Obj)} {σ : St} {H : Hp} {s : Shared} {a : Addr} {y v : V} {u r : Value} {o : Option V} {A : Around} {E : Value → Shared → Prop}
end
section
variable {X : Cx} {pins : List (Addr × Obj)} {σ : St} {H : Hp} {s : Shared} {a : Addr} {kvs : List (Key × V)} {k : Key} {u : Value} {A : Around} {E : Value → Shared → Prop}
end
/-! ### readings and rules -/
section
variable {X : Cx} {o i e value : Expr} {pos pos' tpos : Pos} {td ty tv : TE}
end
/-! ### displays -/
section
variable {X : Cx} {pos : Pos}
end
/-! ### methods -/
section
variable {X : Cx} {pins : List (Addr × Obj)} {σ : St} {H : Hp} {s : Shared} {a : Addr} {y d : V} {u r : Value} {o : Option V} {A : Around} {E : Value → Shared → Prop}
end
section
variable {X : Cx} {o e f : Expr} {apos cpos : Pos} {td ty tx : TE}
end
/-! ### dict(d): a copy -/
section
variable {X : Cx} {pins : List (Addr × Obj)} {σ : St} {H : Hp} {s : Shared} {a : Addr} {kvs : List (Key × V)} {A : Around} {E : Value → Shared → Prop}
end
section
variable {X : Cx} {pins : List (Addr × Obj)} {σ : St} {H : Hp} {s : Shared} {a : Addr} {y : V} {u : Value} {A : Around} {E : Value → Shared → Prop}
end
end L2
-- MOD Cmp
/-! Comprehensions over one clause, for the hand layer. -/
namespace L2
open PySem PySem.Spec PyProof.Rows
noncomputable def PFs (X : Cx) (ifs : List Expr) (t : TT) : Prop :=
  ∀ (pins : List (Addr × Obj)) (s : Shared) (σ : St) (H : Hp) (Q : Bool → Hp → Prop), Inv X pins σ H s → t σ H Q →
    wpAny (model X.prog X.w) X.A (forIn ifs true fun c r => if r = true then do let ok ← isTrue c X.env (eval c X.env); pure (ForInStep.yield ok) else pure (ForInStep.yield r)) (TP X pins σ Q) X.xe s
noncomputable def tYes : TT := fun _ H Q => Q true H
theorem pf_nil {X : Cx} : PFs X [] tYes := fun _ _ _ H _ I h => wpAny_tests_nil ⟨H, I, h⟩
section
variable {prog : Program} {w : World} {A : Around} {R : Result → Shared → Prop}
theorem comp_loop {elt tg iter : Expr} {ifs : List Expr} {sc : Scope} {pos : Pos} {it acc : Value} {env : Env} (J : Nat → Shared → Prop) (N : Value → Shared → Prop)
    (hN : N = notedBy (model prog w) A env fun e z => R (.error e) z)
    (turn : ∀ k z, J k z → wpAny (model prog w) A (pyNext it) (fun r z1 => match r with
      | none => R (.ok .next) z1
      | some v => wpAny (model prog w) A (letOwnedTupleGo tg it v) (fun _ z2 => wpAny (model prog w) A (assign tg env v) (fun _ z3 =>
          wpAny (model prog w) A (forIn ifs true fun c r => if r = true then do let ok ← isTrue c env (eval c env); pure (ForInStep.yield ok) else pure (ForInStep.yield r)) (fun ok z4 =>
            if ok = true then wpAny (model prog w) A (eval elt env) (fun y z5 => wpAny (model prog w) A (call (.builtin "list.append") [acc, y]) (fun _ z6 => ∃ j, j < k ∧ J j z6) N z5) N z4
            else ∃ j, j < k ∧ J j z4) N z3) N z2) N z1) N z)
    {z : Shared} (k : Nat) (h : J k z) : codeAny (model prog w) A (.compLoop (.ListComp elt [⟨tg, iter, ifs, 0⟩] sc pos) 0 it acc env) R z := by
  subst hN
  refine codeAny_loop rfl J (fun k z hJ => ?_) k h
  show wpAny _ A ((compTurn (.ListComp elt [⟨tg, iter, ifs, 0⟩] sc pos) 0 it acc env).onRaise (fun x => do noteFrame x env; theTreesLotGoes x)) _ _ z
  refine wpAny_noted ?_
  rw [compTurn_list]
  refine wpAny_bind (wpAny_standAt (wpAny_bind (thn (turn k z hJ) fun r z1 h1 => ?_)))
  cases r with
  | none => exact wpAny_pure h1
  | some v =>
    refine wpAny_bind (thn h1 fun _ z2 h2 => ?_)
    refine wpAny_bind (thn h2 fun _ z3 h3 => ?_)
    refine wpAny_bind (thn h3 fun ok z4 h4 => ?_)
    cases ok with
    | false => exact wpAny_pure ⟨rfl, h4⟩
    | true => exact wpAny_bind (wpAny_bind (thn h4 fun y z5 h5 => wpAny_bind (thn h5 fun _ z6 h6 => wpAny_pure (wpAny_pure ⟨rfl, h6⟩))))
end
noncomputable def cxComp (X : Cx) (sc : Scope) (cl : List (Str × Addr)) (T : List Str) (C : Addr) (s2 : Shared) (H2 : Hp) (fp : List Addr) : Cx where
  prog := X.prog
  w := X.w
  K := X.K
  mg := X.mg
  base := X.base
  A := X.A
  N := X.N ++ T
  s₀ := s2
  H₀ := H2
  env := compEnvC sc cl C X.env
  outer := X.stack
  stack := X.stack
  ex := fp
  fn := fun _ => false
  calm := X.calm
  pn := []
  xe := fun _ _ => False

noncomputable def ClOk (X : Cx) : List (Str × Addr) → Prop
  | [] => True
  | p :: r => X.env.cells.lookup p.1 = some p.2 ∧ ClOk X r
theorem ClOk.look {X : Cx} : ∀ {cl : List (Str × Addr)}, ClOk X cl → ∀ x c, cl.lookup x = some c → X.env.cells.lookup x = some c
  | [], _, _, _, h => by cases h
  | p :: r, k, x, c, h => by
    cases e : x == p.1 with
    | true =>
      rw [List.lookup_cons, e] at h
      have ex : x = p.1 := by simpa using e
      rw [ex, k.1]
      exact h
    | false =>
      rw [List.lookup_cons, e] at h
      exact ClOk.look k.2 x c h

structure ScOk (X : Cx) (sc : Scope) (cl : List (Str × Addr)) (T : List Str) : Prop where
  clos : closureFor sc X.env = pure cl
  cell : ∀ y ∈ sc.names, y.2 ≠ .cell
  kind : sc.kind = .function
  names : ∀ x ∈ sc.names, x.2 = .local → sc.names.lookup x.1 = some .local
  cls : ClOk X cl
  has : ∀ x ∈ sc.names, x.2 = .free → (cl.lookup x.1).isSome = true ∧ (X.env.scope.names.lookup x.1 = some .cell ∨ X.env.scope.names.lookup x.1 = some .free)
  out : ∀ x ∈ X.N, sc.names.lookup x ≠ some .local

theorem relab_look {sc : Scope} {env : Env} {x : Str} {k : NameKind} : ∀ {names : List (Str × NameKind)},
    (names.map fun (n, k) => if (k == NameKind.free && env.scope.kind == .function && env.kindOf n == some .cell) then (n, NameKind.cell) else (n, k)).lookup x = some k →
    ∃ j, (x, j) ∈ names ∧ names.lookup x = some j ∧ (j = k ∨ (j = .free ∧ k = .cell))
  | [], h => by cases h
  | (n, j) :: r, h => by
    cases e : x == n with
    | true =>
      have ex : x = n := by simpa using e
      subst ex
      refine ⟨j, List.mem_cons_self, by rw [List.lookup_cons, e], ?_⟩
      have h' : List.lookup x ((if (j == NameKind.free && env.scope.kind == .function && env.kindOf x == some .cell) = true then (x, NameKind.cell) else (x, j)) :: _) = some k := h
      by_cases c : (j == NameKind.free && env.scope.kind == .function && env.kindOf x == some .cell) = true
      · rw [if_pos c, List.lookup_cons, e] at h'
        have c1 : (j == NameKind.free) = true := by
          cases q : (j == NameKind.free) with
          | true => rfl
          | false => rw [q] at c; simp at c
        exact .inr ⟨by simpa using c1, (Option.some.inj h').symm⟩
      · rw [if_neg c, List.lookup_cons, e] at h'
        exact .inl (Option.some.inj h')
    | false =>
      have h' : List.lookup x ((if (j == NameKind.free && env.scope.kind == .function && env.kindOf n == some .cell) = true then (n, NameKind.cell) else (n, j)) :: _) = some k := h
      have h2 : (List.map (fun (n, k) => if (k == NameKind.free && env.scope.kind == .function && env.kindOf n == some .cell) then (n, NameKind.cell) else (n, k)) r).lookup x = some k := by
        by_cases c : (j == NameKind.free && env.scope.kind == .function && env.kindOf n == some .cell) = true
        · rw [if_pos c, List.lookup_cons, e] at h'; exact h'
        · rw [if_neg c, List.lookup_cons, e] at h'; exact h'
      obtain ⟨i, m, l, q⟩ := relab_look (sc := sc) (env := env) h2
      exact ⟨i, List.mem_cons_of_mem _ m, by rw [List.lookup_cons, e]; exact l, q⟩

section
variable {X : Cx} {sc : Scope} {cl : List (Str × Addr)} {T : List Str}
theorem ScOk.seen (S : ScOk X sc cl T) {C : Addr} {x : Str} (h : (compEnvC sc cl C X.env).scope.names.lookup x = some .cell ∨ (compEnvC sc cl C X.env).scope.names.lookup x = some .free) :
    (∃ c, cl.lookup x = some c) ∧ (X.env.scope.names.lookup x = some .cell ∨ X.env.scope.names.lookup x = some .free) := by
  have key : ∀ k, (k = .cell ∨ k = .free) → (relabel sc X.env).names.lookup x = some k → (∃ c, cl.lookup x = some c) ∧ (X.env.scope.names.lookup x = some .cell ∨ X.env.scope.names.lookup x = some .free) := by
    intro k hk h
    obtain ⟨j, m, l, q⟩ := relab_look (sc := sc) (env := X.env) h
    have jf : j = .free := by
      rcases q with rfl | ⟨q, _⟩
      · rcases hk with rfl | rfl
        · exact absurd rfl (S.cell _ m)
        · rfl
      · exact q
    subst jf
    obtain ⟨a, b⟩ := S.has _ m rfl
    exact ⟨Option.isSome_iff_exists.mp a, b⟩
  rcases h with h | h
  · exact key _ (.inl rfl) h
  · exact key _ (.inr rfl) h
theorem ScOk.local_out (S : ScOk X sc cl T) {C : Addr} {x : Str} (hx : x ∈ X.N) : (compEnvC sc cl C X.env).scope.names.lookup x ≠ some .local := by
  intro h
  obtain ⟨j, m, l, q⟩ := relab_look (sc := sc) (env := X.env) h
  rcases q with rfl | ⟨_, q⟩
  · exact S.out x hx l
  · cases q

variable {pins : List (Addr × Obj)} {σ : St} {H : Hp} {s : Shared} {fp : List Addr} {C : Addr}
theorem comp_ok (S : ScOk X sc cl T) (I : Inv X pins σ H s) (hf : ∀ b ∈ fp, FpOk X pins H b) (hl : ∀ b ∈ fp, b < s.heap.objs.size) (hC : s.heap.objs.size ≤ C) : (cxComp X sc cl T C s H fp).Ok where
  mod := I.ok.mod
  kind := S.kind
  glob := I.ok.glob
  blt := I.ok.blt
  above := hC
  inj := fun x y c h1 h2 => I.ok.inj x y c (S.cls.look x c h1) (S.cls.look y c h2)
  has := fun x hx => (S.seen hx).1
  cab := fun x c h => by cases h
  hd := I.ok.hd
  frames := I.ok.frames
  stk := .inl rfl
  exf := fun b hb => ⟨Nat.ne_of_lt (Nat.lt_of_lt_of_le (hl b hb) hC), fun x c h => (hf b hb).2.2.2.2.1 x c (S.cls.look x c h)⟩
  bs := I.bs
  bsz := Nat.le_trans I.ok.bsz I.sz
  noex := fun b o e hb => by
    rcases (hf b hb).2.2.2.1 with z | z
    · exact I.ok.noex b o e z
    · exact absurd (Nat.lt_of_lt_of_le (Heap.lt_size e) (Nat.le_trans I.ok.bsz z)) (Nat.lt_irrefl _)
  exfs := fun b hb z => by
    rcases List.mem_cons.mp (I.stkSub b z) with e | e
    · exact (hf b hb).2.1 e
    · exact (hf b hb).2.2.1 e
  funs := I.stack
  frf := I.stkFree

theorem comp_inv (S : ScOk X sc cl T) (I : Inv X pins σ H s) (hf : ∀ b ∈ fp, FpOk X pins H b) (hl : ∀ b ∈ fp, b < s.heap.objs.size) (hC : s.heap.objs.size ≤ C) {h1 : Heap} {m : Str → Option Value} {t1 : Nat}
    (k : ∀ b o, s.heap.get? b = some o → h1.get? b = some o) (hn : h1.Ns C m) : Inv (cxComp X sc cl T C s H fp) [] (σ ++ List.replicate T.length none) H { s with heap := h1, toks := t1 } where
  ok := comp_ok S I hf hl hC
  os := rfl
  bare := I.bare
  base := Un.kept k
  loc := by
    refine ⟨m, hn, fun i x v e1 e2 e3 => ?_⟩
    have hi : i < σ.length := by
      by_cases hi : i < σ.length
      · exact hi
      · rw [List.getElem?_append_right (Nat.not_lt.mp hi), List.getElem?_replicate] at e2
        split at e2 <;> cases e2
    rw [List.getElem?_append_left hi] at e2
    have e1' : X.N[i]? = some x := by
      have e : (X.N ++ T)[i]? = some x := e1
      rwa [List.getElem?_append_left (by rw [← I.len]; exact hi)] at e
    have hx : x ∈ X.N := List.mem_of_getElem? e1'
    have e3' : (compEnvC sc cl C X.env).scope.names.lookup x = some .cell ∨ (compEnvC sc cl C X.env).scope.names.lookup x = some .free := by
      rcases e3 with z | z | z
      · exact absurd z (S.local_out hx)
      · exact .inl z
      · exact .inr z
    obtain ⟨⟨c, hc⟩, ko⟩ := S.seen e3'
    obtain ⟨m0, hn0, hl0⟩ := I.loc
    obtain ⟨u, r, l⟩ := hl0 i x v e1' e2 (.inr ko)
    refine ⟨u, r, .inr ⟨e3', c, hc, ?_⟩⟩
    have hc' := S.cls.look x c hc
    rcases l with ⟨kl, _⟩ | ⟨_, c', hc2, z⟩
    · have kl' : X.env.scope.names.lookup x = some .local := kl
      rcases ko with q | q
      · rw [q] at kl'; cases kl'
      · rw [q] at kl'; cases kl'
    · rw [hc'] at hc2; cases hc2
      obtain ⟨o, ho, hd⟩ := z
      exact ⟨o, k _ _ ho, hd⟩
  cell := fun x c hc => by
    obtain ⟨v, o, ho, hd⟩ := I.cell x c (S.cls.look x c hc)
    exact ⟨v, o, k _ _ ho, hd⟩
  free := I.hok.fresh hC
  freeC := fun x c hc => I.freeC x c (S.cls.look x c hc)
  pin := fun p hp => absurd (show p ∈ ([] : List (Addr × Obj)) from hp) (by simp)
  hok := I.hok.kept k
  len := by
    show (σ ++ List.replicate T.length none).length = (X.N ++ T).length
    rw [List.length_append, List.length_append, List.length_replicate, I.len]

theorem comp_out (S : ScOk X sc cl T) (I : Inv X pins σ H s) (hf : ∀ b ∈ fp, FpOk X pins H b) {D : Addr} (hD : s.heap.objs.size ≤ D) (hC : s.heap.objs.size ≤ C) (hDC : D ≠ C) {s1 : Shared} {H1 : Hp} {σ1 : St} {p1 : List (Addr × Obj)} {ys : List V} {its : List Value}
    (J : Inv (cxComp X sc cl T C s H fp) p1 σ1 H1 s1) (hH : H1 D = none) (rv : Vals ys its) (hz : ys.length ≤ sizeLine) (hget : s1.heap.get? D = some (LCg.lst its)) :
    Inv X pins σ (upd H1 D (.lst ys)) s1 := by
  have fD : H D = none := I.hok.fresh hD
  have nD : ∀ b o, s.heap.get? b = some o → b ≠ D := fun b o e => Nat.ne_of_lt (Nat.lt_of_lt_of_le (Heap.lt_size e) hD)
  refine I.call' (ch := fp) J.os ⟨fun b o e n hb hx => J.base.keep b o e n hb hx, fun b o e n hb hx => J.base.slot b o e n hb hx, fun b o e n hx => ?_, fun b o e hx => J.base.there b o e hx, fun b xs e => ?_, fun b o u e => ?_, fun b ps e => ?_⟩ (fun b u e => ?_) J.bare fun b hb => ⟨(hf b hb).2.2.2.1, (hf b hb).2.1, (hf b hb).2.2.2.2.1, (hf b hb).2.2.2.2.2⟩
  · rw [upd_ne (nD b o e)]
    exact J.base.free b o e n hx
  · rw [upd_ne (ne_of_none e fD)]
    exact J.base.tups b xs e
  · rw [upd_ne (ne_of_none e fD)]
    exact J.base.frzs b o u e
  · rw [upd_ne (ne_of_none e fD)]
    exact J.base.tbls b ps e
  · by_cases hb : b = D
    · subst hb
      rw [upd_same] at e
      cases e
      exact ⟨hz, its, its.length, rv, hget⟩
    · rw [upd_ne hb] at e
      exact (J.hok b u e).stay (fun c v _ q => q) (fun c q => by rw [upd_ne (ne_of_none q hH)]; exact q) fun c xs q => by rw [upd_ne (ne_of_none q hH)]; exact q
end
noncomputable def CompGoal (J : It) (k : Nat) (σ : St) (H1 : Hp) (g : TG) (tt : TT) (te : TE) (Q : VK) : Prop := ∃ W : Nat → Nat → List V → Hp → Prop, (∃ m, W 0 m [] H1) ∧ ∀ i m ys H, W i m ys H →
  (J.stop i H ∧ ys.length ≤ sizeLine ∧ ∀ p, H p = none → Q (.ref p) (upd H p (.lst ys))) ∨
  (J.go i H ∧ ys.length ≤ sizeLine ∧ ∀ x H', J.yld i H x H' → g x (σ ++ List.replicate k none) H' fun σ2 H2 => tt σ2 H2 fun b H3 =>
    if b = true then te σ2 H3 fun y H4 => ∃ m', m' < m ∧ W (i + 1) m' (ys ++ [y]) H4 else ∃ m', m' < m ∧ W (i + 1) m' ys H3)
noncomputable def tComp (k : Nat) (wi : TI) (g : TG) (tt : TT) (te : TE) : TE := fun σ H Q => wi σ H fun J H1 => CompGoal J k σ H1 g tt te Q

section
variable {X : Cx} {elt tg iter : Expr} {ifs : List Expr} {sc : Scope} {pos : Pos} {cl : List (Str × Addr)} {T : List Str} {wi : TI} {g : TG} {tt : TT} {te : TE}
theorem comp_run {pins : List (Addr × Obj)} {σ : St} {s2 : Shared} {H2 : Hp} {Q : VK} {E : Value → Shared → Prop} {R : Value → Addr → Result → Shared → Prop} {it : Addr} {fp : List Addr} {tn : Nat → Heap → Prop} {J : It}
    (hc : X.calm = true) (S : ScOk X sc cl T)
    (hg : ∀ C s H fp, PG (cxComp X sc cl T C s H fp) tg g) (hf : ∀ C s H fp, PFs (cxComp X sc cl T C s H fp) ifs tt) (he : ∀ C s H fp, PE (cxComp X sc cl T C s H fp) elt te)
    (I : Inv X pins σ H2 s2) (TT' : Turn X.prog X.w X.K tg J fp it tn) (st : tn 0 s2.heap) (f2 : ∀ b ∈ fp, FpOk X pins H2 b)
    (W : Nat → Nat → List V → Hp → Prop) (m0 : Nat) (w0 : W 0 m0 [] H2)
    (turn : ∀ i m ys H, W i m ys H → (J.stop i H ∧ ys.length ≤ sizeLine ∧ ∀ p, H p = none → Q (.ref p) (upd H p (.lst ys))) ∨
      (J.go i H ∧ ys.length ≤ sizeLine ∧ ∀ x H', J.yld i H x H' → g x (σ ++ List.replicate T.length none) H' fun σ2 H2 => tt σ2 H2 fun b H3 =>
        if b = true then te σ2 H3 fun y H4 => ∃ m', m' < m ∧ W (i + 1) m' (ys ++ [y]) H4 else ∃ m', m' < m ∧ W (i + 1) m' ys H3))
    (hR : ∀ (D C : Addr) (s1 : Shared) (H1 : Hp) (m : Str → Option Value), Inv X pins σ H1 s1 → H1 C = none → C ≠ X.env.locals → X.s₀.heap.objs.size ≤ C → (∀ x c, X.env.cells.lookup x = some c → c ≠ C) → (∀ p ∈ X.pn ++ pins, p.1 ≠ C) →
      s1.heap.Ns C m → Q (.ref D) H1 → R (.ref D) C (.ok .next) s1) :
    wpAny (model X.prog X.w) X.A (newList []) (fun acc s₃ => wpAny (model X.prog X.w) X.A (newFunctionEnv sc X.env.globals cl [] X.env.qual none .none (some X.env)) (fun cenv s₄ =>
      codeAny (model X.prog X.w) X.A (.compStart (.ListComp elt [⟨tg, iter, ifs, 0⟩] sc pos) 0 (.ref it) acc { cenv with scope := relabel sc X.env }) (R acc cenv.locals) s₄) E s₃) E s2 := by
  refine wpAny_newObj_type (wpAny_newFunctionEnv S.cell (by intro y hy; simp at hy) (fun h1 hn1 sb1 => ?_) S.kind)
  dsimp only at hn1 sb1 ⊢
  generalize hH : s2.heap.push { cls := .type "list", dict := none, data := .seq ([] : List Value).toArray } = G at hn1 sb1 ⊢
  have hC : G.objs.size = s2.heap.objs.size + 1 := by rw [← hH, Heap.size_push]
  have hDC : s2.heap.objs.size ≠ G.objs.size := by rw [hC]; exact Nat.ne_of_lt (Nat.lt_succ_self _)
  have hCle : s2.heap.objs.size ≤ G.objs.size := by rw [hC]; exact Nat.le_succ _
  have old : ∀ b o, s2.heap.get? b = some o → h1.get? b = some o := fun b o e => by
    exact sb1.extBut b o (Nat.ne_of_lt (Nat.lt_of_lt_of_le (Heap.lt_size e) hCle)) (Heap.get?_push_of_some _ (hH ▸ Heap.get?_push_of_some _ e))
  have hacc : h1.get? s2.heap.objs.size = some (LCg.lst []) := sb1.extBut _ _ hDC (Heap.get?_push_of_some _ (hH ▸ Heap.get?_push_size _ rfl))
  have fl : ∀ b ∈ fp, b < s2.heap.objs.size := fun b hb => by
    obtain ⟨o, e, _⟩ := TT'.obj _ _ st b hb
    exact Heap.lt_size e
  have DS : s2.heap.objs.size ∉ frs X.stack := fun z => by
    rcases List.mem_cons.mp (I.stkSub _ z) with e | e
    · exact Nat.ne_of_lt I.lt e.symm
    · exact I.nofs (Nat.le_refl _) e
  have keepT : ∀ (i : Nat) (h h' : Heap), tn i h → (∀ b o, b < s2.heap.objs.size → h.get? b = some o → h'.get? b = some o) → tn i h' := fun i h h' z k => TT'.keep i h h' z fun b hb o e => k b o (fl b hb) e
  have fpo : ∀ {H' : Hp} {pl : List (Addr × Obj)}, (∀ b ∈ fp, H' b = none) → (∀ p ∈ pl, s2.heap.objs.size ≤ p.1) → ∀ b ∈ fp, FpOk (cxComp X sc cl T G.objs.size s2 H2 fp) pl H' b := fun {H' pl} hn hp b hb => by
    refine ⟨hn b hb, fun z => ?_, fun z => ?_, .inl hb, fun x c h => (f2 b hb).2.2.2.2.1 x c (S.cls.look x c h), fun p hp' z => ?_⟩
    · exact Nat.ne_of_lt (Nat.lt_of_lt_of_le (fl b hb) hCle) z
    · rcases List.mem_cons.mp (I.stkSub b z) with e | e
      · exact (f2 b hb).2.1 e
      · exact (f2 b hb).2.2.1 e
    · exact Nat.ne_of_lt (Nat.lt_of_lt_of_le (fl b hb) (hp p (show p ∈ pl from hp'))) z.symm
  let Y := cxComp X sc cl T G.objs.size s2 H2 fp
  have loop : ∀ z : Shared, z = { s2 with heap := h1, toks := s2.toks + ([] : List (Str × Value)).length } →
      codeAny (model X.prog X.w) X.A (.compLoop (.ListComp elt [⟨tg, iter, ifs, 0⟩] sc pos) 0 (.ref it) (.ref s2.heap.objs.size) (compEnvC sc cl G.objs.size X.env)) (R (.ref s2.heap.objs.size) G.objs.size) z := by
    rintro z rfl
    refine comp_loop (fun n z => ∃ i ys its H', Inv Y [] (σ ++ List.replicate T.length none) H' z ∧ tn i z.heap ∧ (∀ b ∈ fp, H' b = none) ∧ H' s2.heap.objs.size = none ∧ Vals ys its ∧ z.heap.get? s2.heap.objs.size = some (LCg.lst its) ∧ W i n ys H') _ rfl ?_ m0
      ⟨0, [], [], H2, comp_inv S I f2 fl hCle old hn1, TT'.keep _ _ _ st fun b hb o e => old b o e, fun b hb => (f2 b hb).1, I.hok.fresh (Nat.le_refl _), .nil, hacc, w0⟩
    rintro n z ⟨i, ys, its, H', IY, stz, frz, fD, rv, hget, wz⟩
    have IP : Inv Y [(s2.heap.objs.size, LCg.lst its)] (σ ++ List.replicate T.length none) H' z := IY.pins_of fun p hp => by
      have e : p = (s2.heap.objs.size, LCg.lst its) := by simpa using hp
      subst e
      exact ⟨hget, fD, hDC, DS, fun v q => by cases (show Data.seq _ _ = Data.cell v from q)⟩
    have hpl : ∀ p ∈ [(s2.heap.objs.size, LCg.lst its)], s2.heap.objs.size ≤ p.1 := fun p hp => by
      have e : p = (s2.heap.objs.size, LCg.lst its) := by simpa using hp
      subst e
      exact Nat.le_refl _
    rcases turn i n ys H' wz with ⟨stop, hz, q⟩ | ⟨go, hz, step⟩
    · refine thn (TT'.done Y rfl rfl rfl hc i _ z _ H' _ IP (fpo frz hpl) stz stop) fun r z1 ⟨hr, I1⟩ => ?_
      subst hr
      have g1 : z1.heap.get? s2.heap.objs.size = some (LCg.lst its) := (I1.pin (s2.heap.objs.size, LCg.lst its) (by simp [Y, cxComp])).1
      obtain ⟨mC, hnC, _⟩ := I1.loc
      have out := comp_out S I f2 (Nat.le_refl _) hCle hDC I1 fD rv hz g1
      refine hR _ _ z1 _ mC out ?_ ?_ ?_ ?_ ?_ hnC (q _ fD)
      · rw [upd_ne (Ne.symm hDC)]
        exact I1.free
      · exact (Nat.ne_of_lt (Nat.lt_of_lt_of_le I.lt hCle)).symm
      · exact Nat.le_trans I.sz hCle
      · intro x c hcc
        obtain ⟨v, zc⟩ := I.cell x c hcc
        exact Nat.ne_of_lt (Nat.lt_of_lt_of_le zc.lt hCle)
      · intro p hp
        exact Nat.ne_of_lt (Nat.lt_of_lt_of_le (Heap.lt_size (I.pin p hp).1) hCle)
    · refine thn (TT'.item Y rfl rfl rfl hc i _ z _ H' _ IP (fpo frz hpl) stz go) fun r z1 ⟨u, hr, h1'⟩ => ?_
      subst hr
      refine thn h1' fun _ z2 ⟨x, H3, I3, r3, y3, st3, fr3⟩ => ?_
      have I3' := I3.pinned (fpo fr3 hpl) (TT'.obj _ _ st3)
      have fin : ∀ {H' : Hp} {σ' : St} {z' : Shared}, Inv Y ([(s2.heap.objs.size, LCg.lst its)] ++ pinsAt fp z2.heap) σ' H' z' → tn (i + 1) z'.heap ∧ (∀ b ∈ fp, H' b = none) ∧ H' s2.heap.objs.size = none ∧ z'.heap.get? s2.heap.objs.size = some (LCg.lst its) := fun {H' σ' z'} I' => by
        have a1 : ∀ b ∈ fp, ∀ o, z2.heap.get? b = some o → z'.heap.get? b = some o ∧ H' b = none := fun b hb o e =>
          let p := I'.pin (b, o) (List.mem_append_right _ (List.mem_append_right _ (mem_pinsAt hb e)))
          ⟨p.1, p.2.1⟩
        have a2 := I'.pin (s2.heap.objs.size, LCg.lst its) (List.mem_append_right _ (by simp))
        exact ⟨TT'.keep _ _ _ st3 fun b hb o e => (a1 b hb o e).1, fun b hb => by
          obtain ⟨o, e, _⟩ := TT'.obj _ _ st3 b hb
          exact (a1 b hb o e).2, a2.2.1, a2.1⟩
      have bare : ∀ {H' : Hp} {σ' : St} {z' : Shared}, Inv Y ([(s2.heap.objs.size, LCg.lst its)] ++ pinsAt fp z2.heap) σ' H' z' → Inv Y [] σ' H' z' := fun I' => I'.pins_of fun p hp => absurd hp (by simp)
      refine wpAny_mono (hg G.objs.size s2 H2 fp _ z2 _ H3 x u _ I3' r3 (step x H3 y3)) (fun _ z3 ⟨σ4, H4, I4, q4⟩ => ?_) fun _ _ e => e.elim
      refine wpAny_mono (hf G.objs.size s2 H2 fp _ z3 _ H4 _ I4 q4) (fun ok z4 ⟨H5, I5, q5⟩ => ?_) fun _ _ e => e.elim
      have lenσ : ∀ {H' : Hp} {σ' : St} {z' : Shared} {pl}, Inv Y pl σ' H' z' → (σ ++ List.replicate T.length none).length = σ'.length := fun I' => by rw [I'.len]; exact IY.len
      have weak : ∀ {H' : Hp} {z' : Shared}, Inv Y [] σ4 H' z' → Inv Y [] (σ ++ List.replicate T.length none) H' z' := fun {H' z'} I' => by
        have c0 := comp_inv (T := T) (t1 := z'.toks) S I f2 fl hCle old hn1
        obtain ⟨m', hn', hl'⟩ := I'.loc
        obtain ⟨_, _, hl0⟩ := I.loc
        refine ⟨I'.ok, I'.os, I'.bare, I'.base, ⟨m', hn', fun j x v e1 e2 e3 => ?_⟩, I'.cell, I'.free, I'.freeC, I'.pin, I'.hok, (lenσ I').trans I'.len⟩
        have hj : j < σ.length := by
          by_cases hj : j < σ.length
          · exact hj
          · rw [List.getElem?_append_right (Nat.not_lt.mp hj), List.getElem?_replicate] at e2
            split at e2 <;> cases e2
        have e2' := e2
        rw [List.getElem?_append_left hj] at e2'
        have e1' : X.N[j]? = some x := by
          have e : (X.N ++ T)[j]? = some x := e1
          rwa [List.getElem?_append_left (by rw [← I.len]; exact hj)] at e
        have hx : x ∈ X.N := List.mem_of_getElem? e1'
        have e3' : (compEnvC sc cl G.objs.size X.env).scope.names.lookup x = some .cell ∨ (compEnvC sc cl G.objs.size X.env).scope.names.lookup x = some .free := by
          rcases e3 with z | z | z
          · exact absurd z (S.local_out hx)
          · exact .inl z
          · exact .inr z
        obtain ⟨⟨c, hc'⟩, ko⟩ := S.seen e3'
        obtain ⟨u, r, l⟩ := hl0 j x v e1' e2' (.inr ko)
        have hcX := S.cls.look x c hc'
        refine ⟨u, r, .inr ⟨e3', c, hc', ?_⟩⟩
        rcases l with ⟨kl, _⟩ | ⟨_, c', hc2, zc⟩
        · have kl' : X.env.scope.names.lookup x = some .local := kl
          rcases ko with q | q
          · rw [q] at kl'; cases kl'
          · rw [q] at kl'; cases kl'
        · rw [hcX] at hc2; cases hc2
          obtain ⟨o, ho, hd⟩ := zc
          have nfp : c ∉ fp := fun hb => (f2 c hb).2.2.2.2.1 x c hcX rfl
          obtain ⟨sl, e⟩ := I'.base.any ho (I.freeC x c hcX) nfp
          exact ⟨_, e, hd⟩
      cases ok with
      | false =>
        rw [if_neg Bool.false_ne_true] at q5 ⊢
        obtain ⟨m', hm, w'⟩ := q5
        obtain ⟨b1, b2, b3, b4⟩ := fin I5
        exact ⟨m', hm, i + 1, ys, its, H5, weak (bare I5), b1, b2, b3, rv, b4, w'⟩
      | true =>
        rw [if_pos rfl] at q5 ⊢
        refine wpAny_mono (he G.objs.size s2 H2 fp _ z4 _ H5 _ I5 q5) (fun y z5 ⟨yv, H6, I6, r6, q6⟩ => ?_) fun _ _ e => e.elim
        obtain ⟨m', hm, w'⟩ := q6
        obtain ⟨b1, b2, b3, b4⟩ := fin I6
        refine append_at (hsz := by show its.toArray.size ≤ sizeLine; rw [List.size_toArray, ← rv.length]; exact hz) b4 fun h6 sb6 g6 => ?_
        have I7 : Inv Y [] (σ ++ List.replicate T.length none) H6 { z5 with heap := h6 } := (weak (bare I6)).turned (t' := z5.toks) (it := s2.heap.objs.size) (fun b o hb e => (sb6.2 b hb).trans e) b3 hDC (.inr (Nat.le_refl _)) (fun x c h => by
          obtain ⟨v, zc⟩ := I.cell x c (S.cls.look x c h)
          exact Nat.ne_of_lt zc.lt) fun p hp => absurd (show p ∈ ([] : List (Addr × Obj)) from hp) (by simp)
        refine ⟨m', hm, i + 1, ys ++ [yv], its ++ [y], H6, I7, keepT _ _ _ b1 fun b o hb e => (sb6.2 b (Nat.ne_of_lt hb)).trans e, b2, b3, rv.append (.cons r6 .nil), g6.trans (congrArg some (LCg.lst_snoc its y)), w'⟩
  exact codeAny_compStart_list (loop _ rfl) (TT'.self _ 0 _ _ _ (TT'.keep _ _ _ st fun b hb o e => old b o e) (loop _ rfl))

theorem pe_comp (hc : X.calm = true) (S : ScOk X sc cl T) (hi : PI X tg iter wi)
    (hg : ∀ C s H fp, PG (cxComp X sc cl T C s H fp) tg g) (hf : ∀ C s H fp, PFs (cxComp X sc cl T C s H fp) ifs tt) (he : ∀ C s H fp, PE (cxComp X sc cl T C s H fp) elt te)
    (hs : ∀ x, foldedSetIterable iter X.env x = pure x := by intro _; rfl) : PE X (.ListComp elt [⟨tg, iter, ifs, 0⟩] sc pos) (tComp T.length wi g tt te) := by
  intro pins s σ H Q I h
  rw [eval_ListComp]
  refine wpAny_comprehension_free (use := none) rfl hs S.clos S.kind S.names (thn (hi pins s σ H _ I h) fun v s1 h1 => thn h1 fun itv s2 h2 => ?_)
  obtain ⟨it, fp, tn, J, H2, e, I2, TT', st2, f2, W, ⟨m0, w0⟩, turn⟩ := h2
  subst e
  refine comp_run (Q := Q) hc S hg hf he I2 TT' st2 f2 W m0 w0 turn fun D C z H1 m I1 n1 n2 n3 n4 n5 hn q => ?_
  exact ⟨m, hn, fun h' sb => ⟨.ref D, H1, I1.turned (t' := z.toks) (it := C) (fun b o hb e => (sb.2 b hb).trans e) n1 n2 (.inr n3) n4 n5, rfl, q⟩⟩
theorem ps_setComp {i : Nat} {y : Str} {py spos : Pos} (hc : X.calm = true) (S : ScOk X sc cl T) (hi : PI X tg iter wi)
    (hg : ∀ C s H fp, PG (cxComp X sc cl T C s H fp) tg g) (hf : ∀ C s H fp, PFs (cxComp X sc cl T C s H fp) ifs tt) (he : ∀ C s H fp, PE (cxComp X sc cl T C s H fp) elt te)
    (hN : X.N.Nodup) (hix : X.N[i]? = some y) (hx : X.env.scope.names.lookup y = some .local)
    (hsw : swapsWith (.ListComp elt [⟨tg, iter, ifs, 0⟩] sc pos) (some (.Name y py)) spos.line X.env = pure true)
    (hs : ∀ x, foldedSetIterable iter X.env x = pure x := by intro _; rfl) :
    PS X (.Assign [.Name y py] (.ListComp elt [⟨tg, iter, ifs, 0⟩] sc pos) spos) (tAsg (tComp T.length wi g tt te) (gName i)) := by
  intro pins s σ H D I h
  rw [exec_Assign_Name_used _ _ _ _ hsw]
  refine wpAny_bind (wpAny_standAt (wpAny_bind ?_))
  show wpAny _ X.A (do let _ ← comprehension (.ListComp elt [⟨tg, iter, ifs, 0⟩] sc pos) sc X.env _ (newList []) false (eval iter X.env) (some (assign (.Name y py) X.env))) _ _ s
  refine wpAny_bind (thn (wpAny_comprehension_free (use := some (assign (.Name y py) X.env)) (Q := fun _ s' => SP X pins D .next s') rfl hs S.clos S.kind S.names (thn (hi pins s σ H _ I h) fun v s1 h1 => thn h1 fun itv s2 h2 => ?_)) fun _ s' hq => wpAny_pure (wpAny_pure hq))
  obtain ⟨it, fp, tn, J, H2, e, I2, TT', st2, f2, W, ⟨m0, w0⟩, turn⟩ := h2
  subst e
  refine comp_run (Q := fun x H1 => gName i x σ H1 D.nx) hc S hg hf he I2 TT' st2 f2 W m0 w0 turn fun A C z H1 m I1 n1 n2 n3 n4 n5 hn q => ?_
  show wpAny _ X.A (assign (.Name y py) X.env (.ref A)) _ _ z
  refine wpAny_assign_Name (store_ok2 (v := .ref A) I1 hN hix (.inl hx) rfl (fun z' I' ⟨a, sb, ha⟩ => ?_) (.inr hx))
  have hCa : C ≠ a := by
    rcases ha with e | e
    · rw [e]; exact n2
    · exact (n4 y a e).symm
  refine ⟨m, hn.sameBut sb hCa, fun h' sb' => ⟨_, H1, I'.turned (t' := z'.toks) (it := C) (fun b o hb e => (sb'.2 b hb).trans e) n1 n2 (.inr n3) n4 n5, q⟩⟩
end
end L2
-- MOD Ex1
/-! More rules for the hand layer: isinstance, all, is True, texts walked and cut, keywords at a class. -/
namespace L2
open PySem PySem.Spec PyProof.Rows
section
variable {X : Cx}
theorem v1 {x : V} {us : List Value} (r : Vals [x] us) : ∃ u, us = [u] ∧ RelV x u := by
  cases r with
  | cons a b => cases b; exact ⟨_, rfl, a⟩
theorem v2 {x y : V} {us : List Value} (r : Vals [x, y] us) : ∃ u v, us = [u, v] ∧ RelV x u ∧ RelV y v := by
  cases r with
  | cons a b =>
    cases b with
    | cons c d => cases d; exact ⟨_, _, rfl, a, c⟩
theorem call_isinst : CallR X (.builtin "isinstance") (fun xs H Q => ∃ x c t cv b, xs = [x, c] ∧ TyOf X.K H x t ∧ RelV c cv ∧ PySem.W.kitOne X.K t cv = some b ∧ Q (.bl b) H) := by
  intro pins s σ H xs us Q I r h
  obtain ⟨x, c, t, cv, b, rfl, ty, rc, e, q⟩ := h
  obtain ⟨u, v, rfl, ru, rv⟩ := v2 r
  have hv : v = cv := by
    cases c with
    | non => exact (show v = Value.none from rv).trans (show cv = Value.none from rc).symm
    | bl z => exact (show v = Value.bool z from rv).trans (show cv = Value.bool z from rc).symm
    | int i =>
      obtain ⟨t1, rfl⟩ := rc
      exact absurd e (by unfold PySem.W.kitOne; cases ty <;> simp [PySem.W.kitCls])
    | str i =>
      obtain ⟨t1, rfl⟩ := rc
      exact absurd e (by unfold PySem.W.kitOne; cases ty <;> simp [PySem.W.kitCls])
    | byt i =>
      obtain ⟨t1, rfl⟩ := rc
      exact absurd e (by unfold PySem.W.kitOne; cases ty <;> simp [PySem.W.kitCls])
    | flt i =>
      obtain ⟨t1, rfl⟩ := rc
      exact absurd e (by unfold PySem.W.kitOne; cases ty <;> simp [PySem.W.kitCls])
    | ref a => exact (show v = Value.ref a from rv).trans (show cv = Value.ref a from rc).symm
    | ty n => exact (show v = Value.type n from rv).trans (show cv = Value.type n from rc).symm
  subst hv
  exact isinst_ok I ru ty e fun tk => ⟨.bl b, H, I.tok tk, rfl, q⟩

theorem bools_get : ∀ {bs : List Bool} {us : List Value} {i : Nat} {v : Value}, Vals (bs.map V.bl) us → us[i]? = some v → ∃ b, bs[i]? = some b ∧ v = Value.bool b
  | [], _, i, v, .nil, h => by simp at h
  | b :: r, _, 0, v, .cons a t, h => by
    simp at h
    subst h
    exact ⟨b, rfl, a⟩
  | b :: r, _, i + 1, v, .cons a t, h => by
    obtain ⟨b', e, q⟩ := bools_get (bs := r) (i := i) t (by simpa using h)
    exact ⟨b', by simpa using e, q⟩
theorem all_range : ∀ (bs : List Bool), ((List.range bs.length).all fun i => (bs[i]?).getD true) = bs.all id
  | [] => rfl
  | b :: r => by
    rw [List.length_cons, List.range_succ_eq_map, List.all_cons, List.all_map, List.all_cons]
    have e := all_range r
    simp only [Function.comp_def, List.getElem?_cons_succ, List.getElem?_cons_zero, Option.getD_some, id] at *
    rw [← e]
theorem call_all (hc : X.calm = true) : CallR X (.builtin "all") (fun xs H Q => ∃ (p : Addr) (bs : List Bool), xs = [.ref p] ∧ SqL X.K H p (bs.map V.bl) ∧ Q (.bl (bs.all id)) H) := by
  intro pins s σ H xs us Q I r h
  obtain ⟨p, bs, rfl, hp, q⟩ := h
  obtain ⟨u, rfl, ru⟩ := v1 r
  cases (show u = Value.ref p from ru)
  obtain ⟨its, rv, pl, hz⟩ := I.list hp
  have hl := pl.isList
  have hlt : p < s.heap.objs.size := by obtain ⟨_, e, _⟩ := hl; exact Heap.lt_size e
  have hlen : its.length = bs.length := by rw [← rv.length, List.length_map]
  refine call_all_walk (wpAny_pyIter_list hl ?_)
  refine ⟨s.heap.objs.size, [s.heap.objs.size, p], [s.heap.objs.size], its.toArray.size, _, _, fun i => (bs[i]?).getD true, rfl, Walks.list (A := X.A.in1) (I.ok.hd hc) _ p (Nat.ne_of_lt hlt) its.toArray,
    ⟨⟨_, Heap.get?_push_size _ rfl, rfl, rfl⟩, hl.push _⟩, fun i v s' Q' E' hP hQ => ?_, fun h' tk hk => ?_⟩
  · obtain ⟨b, e, rfl⟩ := bools_get rv (by simpa using hP)
    simp only [e, Option.getD_some] at hQ
    exact wpAny_truthy_bool hQ
  · rw [List.size_toArray, hlen, all_range]
    exact ⟨.bl _, H, I.kept (t' := tk) fun b o e => hk b o (fun hm => by rw [List.mem_singleton.mp hm] at e; exact Nat.lt_irrefl _ (Heap.lt_size e)) (Heap.get?_push_of_some _ e), rfl, q⟩

noncomputable def Its (x : Str) : It := ⟨fun i _ => i < x.length, fun i H v H' => H' = H ∧ ∃ c, x.cps[i]? = some c ∧ v = .str ⟨#[c]⟩, fun i _ => x.length ≤ i⟩
noncomputable def iStr (tl : TE) : TI := fun σ H R => tl σ H fun v H1 => ∃ x, v = .str x ∧ R (Its x) H1
theorem turn_str {P : Program} {w : World} {K : PySem.W.Frag} {y : Str} {py : Pos} {x : Str} {it : Addr} {St : Nat → Heap → Prop} (ho : ∀ i h, St i h → ∃ o, h.get? it = some o ∧ ∀ v, o.data ≠ .cell v)
    (W : ∀ A' : Around, A'.handled = none → Walks P w A' it [it] [it] x.cps.size (SignAt x) St) (hself : ∀ (A : Around) (i : Nat) (s : Shared) (Q : Value → Shared → Prop) (E : Value → Shared → Prop), St i s.heap → Q (.ref it) s → wpAny (model P w) A (pyIter (.ref it)) Q E s)
    (hst : ∀ i h, St i h → i ≤ x.cps.size → True) : Turn P w K (.Name y py) (Its x) [it] it (fun i h => i ≤ x.cps.size ∧ St i h) where
  mem := by simp
  obj := fun i h st b hb => by
    have e : b = it := by simpa using hb
    subst e
    exact ho i h st.2
  keep := fun i h h' st k => ⟨st.1, (W { callerA with handled := none } rfl).frame i h h' st.2 k⟩
  item := by
    intro X hP hw hK hc i pins s σ H E I hf st hg
    subst hP hw hK
    obtain ⟨f0, f1, f2, f3, f4, f5⟩ := hf it (by simp)
    refine (W X.A (I.ok.hd hc)).item i s _ _ hg st.2 fun v h' tk hv st' kk => ?_
    obtain ⟨c, u, hc', rfl⟩ := hv
    have I1 : Inv X pins σ H { s with heap := h', toks := tk } := I.turned (fun b o hb e => kk b o (by simpa using hb) e) f0 f1 f3 f4 f5
    exact ⟨_, rfl, wpAny_pure ⟨.str ⟨#[c]⟩, H, I1, ⟨u, rfl⟩, ⟨rfl, c, hc', rfl⟩, ⟨hg, st'⟩, fun b hb => (hf b hb).1⟩⟩
  done := by
    intro X hP hw hK hc i pins s σ H E I hf st hg
    subst hP hw hK
    obtain ⟨f0, f1, f2, f3, f4, f5⟩ := hf it (by simp)
    have e : i = x.cps.size := Nat.le_antisymm st.1 hg
    have st2 := st.2
    rw [e] at st2
    exact (W X.A (I.ok.hd hc)).done s _ _ st2 fun h' tk kk => ⟨rfl, I.turned (fun b o hb e => kk b o (by simpa using hb) e) f0 f1 f3 f4 f5⟩
  self := fun A i s Q E st h => hself A i s Q E st.2 h
theorem pi_str {y : Str} {py : Pos} {l : Expr} {tl : TE} (hl : PE X l tl) : PI X (.Name y py) l (iStr tl) := by
  intro pins s σ H R I h
  refine thn (hl pins s σ H _ I h) fun v s1 ⟨x, H1, I1, r1, q1⟩ => ?_
  obtain ⟨z, rfl, q⟩ := q1
  obtain ⟨t, rfl⟩ := r1
  have fin : ∀ {o : Obj} {St : Nat → Heap → Prop}, Turn X.prog X.w X.K (.Name y py) (Its z) [s1.heap.objs.size] s1.heap.objs.size St → St 0 (s1.heap.push o) → PIE X pins σ (.Name y py) R (.ref s1.heap.objs.size) { s1 with heap := s1.heap.push o } := fun {o St} T st => by
    refine ⟨s1.heap.objs.size, [s1.heap.objs.size], St, _, H1, rfl, I1.kept (t' := s1.toks) fun b o e => Heap.get?_push_of_some _ e, T, st, fun b hb => ?_, q⟩
    have e : b = s1.heap.objs.size := by simpa using hb
    subst e
    exact I1.fpOk (Nat.le_refl _) (I1.hok.fresh (Nat.le_refl _))
  cases ha : z.cps.all (· < 128)
  · refine wpAny_pyIter_wide ha (fin (turn_str (fun i h st => ?_) (fun A' hA => Walks.strWide hA _ z t) (fun A i s Q E st h => wpAny_pyIter_striter_wide st h) fun _ _ _ _ => trivial) ⟨Nat.zero_le _, ⟨_, Heap.get?_push_size _ rfl, rfl, rfl⟩⟩)
    obtain ⟨o, e, c, d⟩ := st
    exact ⟨o, e, fun v q => by rw [d] at q; cases q⟩
  · refine wpAny_pyIter_ascii ha (fin (turn_str (fun i h st => ?_) (fun A' hA => Walks.strAscii hA _ z t) (fun A i s Q E st h => wpAny_pyIter_striter_ascii st h) fun _ _ _ _ => trivial) ⟨Nat.zero_le _, ⟨_, Heap.get?_push_size _ rfl, rfl, rfl⟩⟩)
    obtain ⟨o, e, c, d⟩ := st
    exact ⟨o, e, fun v q => by rw [d] at q; cases q⟩

end
/-! ### a class, made by keywords -/
section
variable {X : Cx} {CX : CXT} {k : Nat} {f C : Addr} {fd : FuncData} {ps ks : List Str} {sp : Sp} {E : St → XK} {x : Str} {p pos : Pos} {e : Expr} {es : List Expr} {kws : List Keyword} {t tk : TA} {g : List Value → List Value → List Value} {gV : List V → List V → List V}
end
end L2
-- MOD Ex2
/-! Data by content and ==; sets of texts; // by greater divisors. -/
namespace L2
open PySem PySem.Spec PyProof.Rows
/-! ### // by a divisor of any written size -/
theorem log2_lt64 {j : Int} (h0 : 0 < j) (h1 : j < 2 ^ 64) : j.natAbs.log2 < 9000 := by
  have : j.natAbs < 2 ^ 64 := by omega
  have h : j.natAbs.log2 < 64 := (Nat.log2_lt (by omega)).mpr this
  omega
noncomputable def CDivB (i j : Int) : Prop := 0 < j ∧ j < 2 ^ 64
theorem op_fdivB {X : Cx} : OpR X (binaryOp .FloorDiv) (rI CDivB fun i j => .int (i / j)) := opI fun i j _ _ _ _ _ hc q => by
  have h1 : (0 : Int) < j := hc.1
  exact floordiv_int (by omega) (by rw [Int.fdiv_eq_ediv_of_nonneg i (by omega)]; exact q) (.inl (PyProof.noPylong_of_log2 (log2_lt64 hc.1 hc.2)))

/-! ### data: every address in it is one of G -/
mutual
inductive Has (G : Addr → Prop) (H : Hp) : V → PyData → Prop where
  | non : Has G H .non .none
  | bl (b : Bool) : Has G H (.bl b) (.bool b)
  | int (i : Int) : Has G H (.int i) (.int i)
  | str (x : Str) (hx : x.length ≤ 1000) (ho : PyData.strOk x = true) : Has G H (.str x) (.str x)
  | lst {a : Addr} {xs : List V} {ds : List PyData} : G a → H a = some (.lst xs) → xs.length ≤ 1000 → HasAll G H xs ds → Has G H (.ref a) (.list ds)
  | tup {a : Addr} {xs : List V} {ds : List PyData} : G a → H a = some (.tup xs) → xs.length ≤ 1000 → HasAll G H xs ds → Has G H (.ref a) (.tuple ds)
inductive HasAll (G : Addr → Prop) (H : Hp) : List V → List PyData → Prop where
  | nil : HasAll G H [] []
  | cons {x : V} {xs : List V} {d : PyData} {ds : List PyData} : Has G H x d → HasAll G H xs ds → HasAll G H (x :: xs) (d :: ds)
end
noncomputable abbrev Any : Addr → Prop := fun _ => True
noncomputable def isSeq : HO → Prop
  | .lst _ => True
  | .tup _ => True
  | _ => False
mutual
theorem Has.frameS {G G' : Addr → Prop} {H H' : Hp} (e : ∀ a o, G a → isSeq o → H a = some o → G' a ∧ H' a = some o) : ∀ {v : V} {d : PyData}, Has G H v d → Has G' H' v d
  | _, _, .non => .non
  | _, _, .bl b => .bl b
  | _, _, .int i => .int i
  | _, _, .str x hx ho => .str x hx ho
  | _, _, .lst (xs := xs) g s z h => .lst (e _ (.lst xs) g trivial s).1 (e _ (.lst xs) g trivial s).2 z (HasAll.frameS e h)
  | _, _, .tup (xs := xs) g s z h => .tup (e _ (.tup xs) g trivial s).1 (e _ (.tup xs) g trivial s).2 z (HasAll.frameS e h)
theorem HasAll.frameS {G G' : Addr → Prop} {H H' : Hp} (e : ∀ a o, G a → isSeq o → H a = some o → G' a ∧ H' a = some o) : ∀ {vs : List V} {ds : List PyData}, HasAll G H vs ds → HasAll G' H' vs ds
  | _, _, .nil => .nil
  | _, _, .cons h t => .cons (Has.frameS e h) (HasAll.frameS e t)
end
theorem Has.frame {G G' : Addr → Prop} {H H' : Hp} {v : V} {d : PyData} (h : Has G H v d) (e : ∀ a o, G a → H a = some o → G' a ∧ H' a = some o) : Has G' H' v d := h.frameS fun a o g _ q => e a o g q
theorem HasAll.frame {G G' : Addr → Prop} {H H' : Hp} {v : List V} {d : List PyData} (h : HasAll G H v d) (e : ∀ a o, G a → H a = some o → G' a ∧ H' a = some o) : HasAll G' H' v d := h.frameS fun a o g _ q => e a o g q
theorem Has.mono {G : Addr → Prop} {H H' : Hp} {v : V} {d : PyData} (h : Has G H v d) (e : Same H H') : Has G H' v d := h.frame fun a o g q => ⟨g, e a o q⟩
theorem HasAll.mono {G : Addr → Prop} {H H' : Hp} {v : List V} {d : List PyData} (h : HasAll G H v d) (e : Same H H') : HasAll G H' v d := h.frame fun a o g q => ⟨g, e a o q⟩
theorem Has.any {G : Addr → Prop} {H : Hp} {v : V} {d : PyData} (h : Has G H v d) : Has Any H v d := h.frame fun _ _ _ q => ⟨trivial, q⟩
theorem HasAll.any {G : Addr → Prop} {H : Hp} {v : List V} {d : List PyData} (h : HasAll G H v d) : HasAll Any H v d := h.frame fun _ _ _ q => ⟨trivial, q⟩
section
variable {G : Addr → Prop} {H : Hp}
theorem HasAll.length : ∀ {xs : List V} {ds : List PyData}, HasAll G H xs ds → xs.length = ds.length
  | _, _, .nil => rfl
  | _, _, .cons _ t => by rw [List.length_cons, List.length_cons, HasAll.length t]
theorem HasAll.get : ∀ {xs : List V} {ds : List PyData} {i : Nat} {x : V}, HasAll G H xs ds → xs[i]? = some x → ∃ d, ds[i]? = some d ∧ Has G H x d
  | _, _, i, x, .nil, h => by simp at h
  | _, _, 0, x, .cons a t, h => by simp at h; subst h; exact ⟨_, rfl, a⟩
  | _, _, i + 1, x, .cons a t, h => by
    obtain ⟨d, e, q⟩ := HasAll.get (i := i) t (by simpa using h)
    exact ⟨d, by simpa using e, q⟩
theorem HasAll.snoc : ∀ {xs : List V} {ds : List PyData} {x : V} {d : PyData}, HasAll G H xs ds → Has G H x d → HasAll G H (xs ++ [x]) (ds ++ [d])
  | _, _, _, _, .nil, h => .cons h .nil
  | _, _, _, _, .cons a t, h => .cons a (HasAll.snoc t h)
theorem HasAll.append : ∀ {xs ys : List V} {ds es : List PyData}, HasAll G H xs ds → HasAll G H ys es → HasAll G H (xs ++ ys) (ds ++ es)
  | _, _, _, _, .nil, h => h
  | _, _, _, _, .cons a t, h => .cons a (HasAll.append t h)
theorem Has.list_inv {v : V} {ds : List PyData} (h : Has G H v (.list ds)) : ∃ a xs, v = .ref a ∧ G a ∧ H a = some (.lst xs) ∧ xs.length ≤ 1000 ∧ HasAll G H xs ds := by
  cases h with
  | lst g s z q => exact ⟨_, _, rfl, g, s, z, q⟩
theorem Has.tup_inv {v : V} {ds : List PyData} (h : Has G H v (.tuple ds)) : ∃ a xs, v = .ref a ∧ G a ∧ H a = some (.tup xs) ∧ xs.length ≤ 1000 ∧ HasAll G H xs ds := by
  cases h with
  | tup g s z q => exact ⟨_, _, rfl, g, s, z, q⟩
theorem Has.str_inv {v : V} {x : Str} (h : Has G H v (.str x)) : v = .str x ∧ x.length ≤ 1000 ∧ PyData.strOk x = true := by
  cases h with
  | str _ a b => exact ⟨rfl, a, b⟩
end
section
variable {X : Cx} {pins : List (Addr × Obj)} {σ : St} {H : Hp} {s : Shared} {G : Addr → Prop}
end
/-! ### set(texts), len of it -/
section
variable {κ : Type} [DecidableEq κ]
noncomputable def dstep (acc : List κ) (x : κ) : List κ := if x ∈ acc then acc else acc ++ [x]
noncomputable def dl (l : List κ) : List κ := l.foldl dstep []
theorem dl_snoc (l : List κ) (x : κ) : dl (l ++ [x]) = dstep (dl l) x := by unfold dl; rw [List.foldl_append]; rfl
theorem foldl_dstep_mem : ∀ (l acc : List κ) (k : κ), k ∈ l.foldl dstep acc ↔ k ∈ acc ∨ k ∈ l
  | [], acc, k => by simp
  | x :: r, acc, k => by
    rw [List.foldl_cons, foldl_dstep_mem r]
    unfold dstep
    by_cases h : x ∈ acc
    · rw [if_pos h]
      constructor
      · rintro (a | a)
        · exact .inl a
        · exact .inr (List.mem_cons_of_mem _ a)
      · rintro (a | a)
        · exact .inl a
        · rcases List.mem_cons.mp a with rfl | a
          · exact .inl h
          · exact .inr a
    · rw [if_neg h]
      simp only [List.mem_append, List.mem_cons, List.not_mem_nil, or_false]
      constructor
      · rintro ((a | a) | a)
        · exact .inl a
        · exact .inr (.inl a)
        · exact .inr (.inr a)
      · rintro (a | a | a)
        · exact .inl (.inl a)
        · exact .inl (.inr a)
        · exact .inr a
theorem mem_dl {l : List κ} {k : κ} : k ∈ dl l ↔ k ∈ l := by unfold dl; rw [foldl_dstep_mem]; simp
theorem foldl_dstep_len : ∀ (l acc : List κ), (l.foldl dstep acc).length ≤ acc.length + l.length
  | [], acc => Nat.le_refl _
  | x :: r, acc => by
    rw [List.foldl_cons]
    refine Nat.le_trans (foldl_dstep_len r _) ?_
    unfold dstep
    split
    · rw [List.length_cons]; omega
    · simp only [List.length_append, List.length_cons, List.length_nil]; omega
theorem dl_len_le (l : List κ) : (dl l).length ≤ l.length := by have := foldl_dstep_len l []; simpa [dl] using this
theorem foldl_dstep_nodup : ∀ (l acc : List κ), (∀ x ∈ l, x ∉ acc) → l.Nodup → (l.foldl dstep acc).length = acc.length + l.length
  | [], acc, _, _ => rfl
  | x :: r, acc, h, hn => by
    obtain ⟨h1, h2⟩ := List.nodup_cons.mp hn
    have hx : x ∉ acc := h x List.mem_cons_self
    rw [List.foldl_cons, show dstep acc x = acc ++ [x] from if_neg hx, foldl_dstep_nodup r _ (fun y hy m => ?_) h2]
    · simp; omega
    · rcases List.mem_append.mp m with m | m
      · exact h y (List.mem_cons_of_mem _ hy) m
      · rw [List.mem_singleton.mp m] at hy; exact h1 hy
theorem foldl_dstep_dup : ∀ (l acc : List κ), ((∃ x ∈ l, x ∈ acc) ∨ ¬ l.Nodup) → (l.foldl dstep acc).length < acc.length + l.length
  | [], acc, h => by
    rcases h with ⟨x, hx, _⟩ | h
    · simp at hx
    · exact absurd List.nodup_nil h
  | x :: r, acc, h => by
    rw [List.foldl_cons]
    by_cases hx : x ∈ acc
    · rw [show dstep acc x = acc from if_pos hx]
      have := foldl_dstep_len r acc
      simp only [List.length_cons]
      omega
    · rw [show dstep acc x = acc ++ [x] from if_neg hx]
      have ih := foldl_dstep_dup r (acc ++ [x]) ?_
      · simp only [List.length_append, List.length_cons, List.length_nil] at *
        omega
      · rcases h with ⟨y, hy, ha⟩ | h
        · rcases List.mem_cons.mp hy with rfl | hy
          · exact absurd ha hx
          · exact .inl ⟨y, hy, List.mem_append_left _ ha⟩
        · by_cases hr : x ∈ r
          · exact .inl ⟨x, hr, by simp⟩
          · exact .inr fun z => h (List.nodup_cons.mpr ⟨hr, z⟩)
theorem dl_len_iff (l : List κ) : decide ((dl l).length = l.length) = decide l.Nodup := by
  by_cases h : l.Nodup
  · have := foldl_dstep_nodup l [] (fun _ _ z => by simp at z) h
    rw [decide_eq_true h, decide_eq_true (by simpa [dl] using this)]
  · have := foldl_dstep_dup l [] (.inr h)
    rw [decide_eq_false h, decide_eq_false (by simp [dl] at *; omega)]

variable {prog : Program} {w : World} {A : Around} {R : Result → Shared → Prop} {I : Addr} {fp wr : List Addr} {n : Nat} {P : Nat → Value → Prop} {St : Nat → Heap → Prop}
theorem SetOf_eqv {knd : KeyKind prog w κ} {h : Heap} {a : Addr} {S S' : κ → Bool} {m m' : Nat} (x : h.SetOf knd a S m) (e : ∀ k, S k = S' k) (em : m = m') : h.SetOf knd a S' m' := by
  have e' : S = S' := funext e
  subst e' em
  exact x
theorem set_loopK (W : Walks prog w A.in1 I fp wr n P St) {D : Addr} (hD : D ∉ fp) {knd : KeyKind prog w κ} {ks : List κ} (hn : ks.length = n) (hval : ∀ i v k, P i v → ks[i]? = some k → knd.is k v = true ∧ v.scannable = true) (hb : n + 1 < scanBound) :
    ∀ (j i : Nat) (z : Shared), n - i = j → i ≤ n → St i z.heap → z.heap.SetOf knd D (fun k => decide (k ∈ ks.take i)) (dl (ks.take i)).length →
      (∀ h' tk, (∀ b o, b ∉ D :: wr → z.heap.get? b = some o → h'.get? b = some o) → h'.SetOf knd D (fun k => decide (k ∈ ks)) (dl ks).length → R (.ok (.ret .none)) { z with heap := h', toks := tk }) →
      codeAny (model prog w) A (.builtin "set.update.loop" ⟨[.ref D, .ref I], []⟩) R z := by
  have hDw : D ∉ wr := fun h => hD (W.sub _ h)
  intro j
  induction j with
  | zero =>
    intro i z hj hi st hS hR
    obtain rfl : i = n := by omega
    refine codeAny_builtin PyProof.Rows.F.entry_set_update_loop ?_
    rw [Around.under_plainId PyProof.Rows.F.plain_set_update_loop _]
    show wpAny _ A.in1 (pyNext (.ref I) >>= _) _ _ z
    refine wpAny_bind (W.done z _ _ st fun h' tk kk => ?_)
    rw [List.take_of_length_le (Nat.le_of_eq hn)] at hS
    obtain ⟨o, es, ep, t, ho, more⟩ := hS
    exact wpAny_pure (hR h' tk (fun b o hb e => kk b o (fun m => hb (List.mem_cons_of_mem _ m)) e) ⟨o, es, ep, t, kk D _ hDw ho, more⟩)
  | succ j ih =>
    intro i z hj hi st hS hR
    have lt : i < n := by omega
    refine codeAny_builtin PyProof.Rows.F.entry_set_update_loop ?_
    rw [Around.under_plainId PyProof.Rows.F.plain_set_update_loop _]
    show wpAny _ A.in1 (pyNext (.ref I) >>= _) _ _ z
    refine wpAny_bind (W.item i z _ _ lt st fun v h1 tk1 hP st1 k1 => ?_)
    have hk : ks[i]? = some (ks[i]'(by omega)) := List.getElem?_eq_getElem _
    obtain ⟨hv, hs⟩ := hval i v _ hP hk
    obtain ⟨o, es, ep, t, ho, more⟩ := hS
    have hS1 : h1.SetOf knd D (fun k => decide (k ∈ ks.take i)) (dl (ks.take i)).length := ⟨o, es, ep, t, k1 D _ hDw ho, more⟩
    show wpAny _ A.in1 (holding [v] (setAdd D v) >>= _) _ _ _
    refine wpAny_bind (wpAny_holding ?_)
    unfold setAdd
    refine wpAny_holding (wpAny_bind (knd.pyHash hv ?_))
    have room : (dl (ks.take i)).length + 1 < scanBound := by
      have a1 := dl_len_le (ks.take i)
      have a2 : (ks.take i).length ≤ i := List.length_take_le _ _
      omega
    refine wpAny_setAddHashed_of (knd := knd) (s := { z with heap := h1, toks := tk1 + 1 }) hv hs hS1 room fun h2 sb2 hS2 => ?_
    have et : ks.take (i + 1) = ks.take i ++ [ks[i]'(by omega)] := by rw [List.take_add_one, hk]; rfl
    have hS3 : h2.SetOf knd D (fun k => decide (k ∈ ks.take (i + 1))) (dl (ks.take (i + 1))).length := by
      refine SetOf_eqv hS2 (fun k => ?_) ?_
      · rw [et, Bool.eq_iff_iff]
        simp only [Bool.or_eq_true, decide_eq_true_eq, List.mem_append, List.mem_singleton]
      · rw [et, dl_snoc]
        unfold dstep
        by_cases q : ks[i]'(by omega) ∈ ks.take i
        · rw [if_pos (by simpa using q), if_pos (mem_dl.mpr q)]
        · rw [if_neg (by simpa using q), if_neg (fun z => q (mem_dl.mp z)), List.length_append, List.length_singleton]
    refine wpAny_pure ⟨plainId_quiet PyProof.Rows.F.plain_set_update_loop _, ih (i + 1) _ (by omega) lt (W.frame _ h1 _ st1 fun b hb o e => ?_) hS3 fun h' tk kk hS' => hR h' tk (fun b o hb e => kk b o hb ?_) hS'⟩
    · rw [sb2.2 b (fun q : b = D => hD (by rw [← q]; exact hb))]; exact e
    · rw [sb2.2 b (fun q : b = D => hb (by rw [q]; exact List.mem_cons_self))]; exact k1 b o (fun m => hb (List.mem_cons_of_mem _ m)) e
end
end L2
-- MOD Ex3
/-! set(..) of a list whose items are scanned keys; len of it. -/
namespace L2
open PySem PySem.Spec PyProof.Rows
noncomputable abbrev bareSet (b : Bool) : Obj := { cls := .type "set", dict := none, data := .set #[] 0 (.fresh 0 0 b) }
section
variable {κ : Type} [DecidableEq κ] {prog : Program} {w : World} {A : Around} {E : Value → Shared → Prop} {z : Shared}
noncomputable def SetMade (knd : KeyKind prog w κ) (ks : List κ) (z : Shared) (r : Value) (z' : Shared) : Prop :=
  r = .none ∧ ∃ h' tk, z' = { z with heap := h', toks := tk } ∧ h'.SetOf knd z.heap.objs.size (fun k => decide (k ∈ ks)) (dl ks).length ∧ ∀ b o, b < z.heap.objs.size → z.heap.get? b = some o → h'.get? b = some o
set_option maxHeartbeats 6400000 in
theorem call_setK {knd : KeyKind prog w κ} {l : Addr} {its : Array Value} {ks : List κ} {Q : Value → Shared → Prop} (hh : A.handled = none) (hl : z.heap.IsList l its) (hn : ks.length = its.size)
    (hv : ∀ (i : Nat) (v : Value) (k : κ), its[i]? = some v → ks[i]? = some k → knd.is k v = true ∧ v.scannable = true) (hb : its.size + 1 < scanBound)
    (h : ∀ z', SetMade knd ks z .none z' → Q (.ref z.heap.objs.size) z') : wpAny (model prog w) A (call (.type "set") [.ref l]) Q E z := by
  obtain ⟨mc, mt, m0⟩ := PySem.F.called_set.mro
  have m1 := PySem.F.called_set.made
  have m2 := PySem.F.called_set.sub
  refine wpAny_call (codeAny_of_tree ?_)
  show wpAny _ _ (callAny (.type "set") _) _ _ _
  refine wpAny_pure ⟨Code.quiet_builtin _ (by decide +kernel), codeAny_builtin PySem.F.entry_type_call ?_⟩
  rw [Around.under_plain (weight_type_call_type "set" [.ref l] []) rfl]
  have m3 := PySem.F.called_set.notType
  have m4 := PySem.F.called_set.canCreate
  have m5 := PySem.F.typeCall_set_1 (.ref l)
  repeat (any_goals (first | assumption | wp_step))
  refine codeAny_mono (code_set_new_1 (.ref l) (E := E) (Q₁ := fun r z1 => ∃ b : Bool, r = .ref z.heap.objs.size ∧ z1 = { z with heap := z.heap.push (bareSet b) }) fun b => ⟨b, rfl, rfl⟩) fun r z1 hr => ?_
  cases r with
  | error e => exact hr
  | ok fl =>
    cases fl with
    | next => exact hr.elim
    | brk => exact hr.elim
    | cont => exact hr.elim
    | ret r =>
      obtain ⟨b, rfl, rfl⟩ := hr
      have g0 : (z.heap.push (bareSet b)).get? z.heap.objs.size = some (bareSet b) := Heap.get?_push_size _ rfl
      have ty : Shared.TypeIs { z with heap := z.heap.push (bareSet b) } (.ref z.heap.objs.size) "set" := ⟨_, g0, rfl⟩
      have i1 := PySem.F.called_set.init.lookup
      have i2 := PySem.F.called_set.init.bind (.ref z.heap.objs.size)
      repeat (any_goals (first | assumption | wp_step))
      refine codeAny_mono (codeAny_call_builtin (R := wants (SetMade knd ks z) E) PySem.F.called_set.init.plain PySem.F.entry_set_init (check_set_init_1 ty ?_)) fun r2 z2 hr2 => ?_
      · obtain ⟨⟨oc, od, odt, osl⟩, ho, c1, nl, d1⟩ := hl
        simp only at c1 d1
        subst c1 d1
        have ho1 : (z.heap.push (bareSet b)).get? l = some { cls := .type "list", dict := od, data := .seq its nl, slots := osl } := Heap.get?_push_of_some _ ho
        have s1 := PySem.F.sub_list_set
        have s2 := PySem.F.sub_list_frozenset
        have s3 : (Value.type "list" == Value.type "dict") = false := by decide
        have hl1 : (z.heap.push (bareSet b)).IsList l its := ⟨_, ho1, rfl, nl, rfl⟩
        unfold Builtin.«set.__init__» noKeywords Builtin.Frozenset.updateFrom
        generalize ePI : pyIter = PI
        wp_walk
        subst ePI
        refine wpAny_pyIter_list hl1 ?_
        refine wpAny_bind (wpAny_runValue ?_)
        have lt : l < z.heap.objs.size := Heap.lt_size ho
        have sz1 : (z.heap.push (bareSet b)).objs.size = z.heap.objs.size + 1 := Heap.size_push _ _
        have neI : l ≠ (z.heap.push (bareSet b)).objs.size := by rw [sz1]; exact Nat.ne_of_lt (Nat.lt_succ_of_lt lt)
        have nD : z.heap.objs.size ∉ [(z.heap.push (bareSet b)).objs.size, l] := by
          rw [sz1]
          simp only [List.mem_cons, List.not_mem_nil, or_false, not_or]
          exact ⟨Nat.ne_of_lt (Nat.lt_succ_self _), Nat.ne_of_gt lt⟩
        refine set_loopK (Walks.list (by simp [hh]) _ l neI its) nD (knd := knd) (ks := ks) hn hv hb (its.size - 0) 0 _ (by omega) (Nat.zero_le _) ⟨⟨_, Heap.get?_push_size _ rfl, rfl, rfl⟩, hl1.push _⟩ ?_ fun h' tk kk hS => ?_
        · refine SetOf_eqv ((PyProof.Rows.setObjOf_fresh (knd := knd) b).setOf (Heap.get?_push_of_some _ g0) (by unfold scanBound; omega)) (fun k => ?_) rfl
          simp
        · show wpAny _ _ _ _ _ _
          refine wpAny_pure ?_
          show wpAny _ _ (ret Value.none) _ _ _
          refine wpAny_pure ⟨rfl, h', tk, rfl, hS, fun c o hc e => kk c o ?_ (Heap.get?_push_of_some _ (Heap.get?_push_of_some _ e))⟩
          rw [sz1]
          simp only [List.mem_cons, List.not_mem_nil, or_false, not_or]
          exact ⟨Nat.ne_of_lt hc, Nat.ne_of_lt (Nat.lt_succ_of_lt hc)⟩
      · cases r2 with
        | error e => exact hr2
        | ok fl2 =>
          cases fl2 with
          | next => exact hr2.elim
          | brk => exact hr2.elim
          | cont => exact hr2.elim
          | ret r =>
            have hs := hr2
            obtain ⟨rfl, h', tk, rfl, hS, kk⟩ := hr2
            repeat (any_goals (first | assumption | wp_step))
            exact h _ hs
end
noncomputable def SetS (P : Program) (w : World) (p : Addr) (ks : List Str) : HO := .ext fun h => h.SetOf (strKind P w) p (fun k => decide (k ∈ ks)) (dl ks).length
section
variable {X : Cx}
theorem strs_get : ∀ {ks : List Str} {us : List Value} {i : Nat} {v : Value} {k : Str}, Vals (ks.map V.str) us → us[i]? = some v → ks[i]? = some k → ∃ t, v = Value.str k t
  | [], _, i, v, k, .nil, h, _ => by simp at h
  | b :: r, _, 0, v, k, .cons a t, h, hk => by
    simp at h hk
    subst h hk
    exact a
  | b :: r, _, i + 1, v, k, .cons a t, h, hk => strs_get (ks := r) (i := i) t (by simpa using h) (by simpa using hk)
theorem call_set_strs (hc : X.calm = true) : CallR X (.type "set") (fun xs H Q => ∃ (p : Addr) (ks : List Str), xs = [.ref p] ∧ SqL X.K H p (ks.map V.str) ∧ ks.length ≤ 4000 ∧ ∀ d, H d = none → Q (.ref d) (upd H d (SetS X.prog X.w d ks))) := by
  intro pins s σ H xs us Q I r h
  obtain ⟨p, ks, rfl, hp, hz, q⟩ := h
  obtain ⟨u, rfl, ru⟩ := v1 r
  cases (show u = Value.ref p from ru)
  obtain ⟨its, rv, pl, _⟩ := I.list hp
  have hlen : its.length = ks.length := by rw [← rv.length, List.length_map]
  refine call_setK (knd := strKind X.prog X.w) (ks := ks) (I.ok.hd hc) pl.isList (by rw [List.size_toArray, hlen]) (fun i v k h1 h2 => ?_) (by rw [List.size_toArray, hlen]; unfold scanBound; omega) fun z' hs => ?_
  · obtain ⟨t, rfl⟩ := strs_get rv (by simpa using h1) h2
    exact ⟨strKind_is _ _ _ _, rfl⟩
  · obtain ⟨_, h', tk, rfl, hS, kk⟩ := hs
    refine ⟨.ref s.heap.objs.size, _, I.laid (t' := tk) (a := s.heap.objs.size) (o := SetS X.prog X.w s.heap.objs.size ks) (fun b o e => kk b o (Heap.lt_size e) e) (Nat.le_refl _) ?_, rfl, q _ (I.hok.fresh (Nat.le_refl _))⟩
    refine ⟨hS, ?_, fun h1 h2 hs1 k12 => ?_⟩
    · obtain ⟨o, _, _, _, e, _⟩ := hS
      exact ⟨o, e⟩
    · obtain ⟨o, es, ep, t, e, more⟩ := hs1
      exact ⟨o, es, ep, t, k12 o e, more⟩
theorem call_len_set_strs : CallR X (.builtin "len") (fun xs H Q => ∃ (d : Addr) (ks : List Str), xs = [.ref d] ∧ H d = some (SetS X.prog X.w d ks) ∧ ks.length ≤ 4000 ∧ Q (.int (dl ks).length) H) := by
  intro pins s σ H xs us Q I r h
  obtain ⟨d, ks, rfl, hd, hz, q⟩ := h
  obtain ⟨u, rfl, ru⟩ := v1 r
  cases (show u = Value.ref d from ru)
  obtain ⟨hS, _, _⟩ := I.hok d _ hd
  obtain ⟨o, es, ep, t, e, hex, hdt, _, _, hb, hf, hn⟩ := hS
  refine call_len_set e hex hdt hf ?_ ?_
  · unfold scanBound at hb; omega
  · rw [hn]
    exact ⟨.int _, H, I.tok _, ⟨_, rfl⟩, q⟩
end
end L2
-- MOD Ex4
/-! Helpers for a law's own text. -/
namespace L2
open PySem PySem.Spec PyProof.Rows
theorem ScOk.auto {X : Cx} {sc : Scope} {cl : List (Str × Addr)} {T : List Str} (h1 : closureFor sc X.env = pure cl := by rfl) (h2 : (sc.names.all fun y => y.2 != .cell) = true := by rfl) (h3 : sc.kind = .function := by rfl)
    (h4 : (sc.names.all fun x => x.2 != .local || sc.names.lookup x.1 == some .local) = true := by rfl)
    (h5 : ClOk X cl := by first | exact trivial | exact ⟨rfl, trivial⟩ | exact ⟨rfl, rfl, trivial⟩ | exact ⟨rfl, rfl, rfl, trivial⟩ | exact ⟨rfl, rfl, rfl, rfl, trivial⟩)
    (h6 : (sc.names.all fun x => x.2 != .free || ((cl.lookup x.1).isSome && (X.env.scope.names.lookup x.1 == some .cell || X.env.scope.names.lookup x.1 == some .free))) = true := by rfl)
    (h7 : (X.N.all fun x => sc.names.lookup x != some .local) = true := by rfl) : ScOk X sc cl T where
  clos := h1
  cell := fun y hy => by have := List.all_eq_true.mp h2 y hy; simpa using this
  kind := h3
  names := fun x hx hl => by
    have := List.all_eq_true.mp h4 x hx
    rw [hl] at this
    simpa using this
  cls := h5
  has := fun x hx hf => by
    have := List.all_eq_true.mp h6 x hx
    rw [hf] at this
    simpa using this
  out := fun x hx => by have := List.all_eq_true.mp h7 x hx; simpa using this

theorem comp_by {J : It} {n k : Nat} {σ : St} {H : Hp} {g : TG} {tt : TT} {te : TE} {Q : VK} (Pv : Nat → List V → Hp → Prop) (h0 : Pv 0 [] H) (go : ∀ i ys H, i < n → Pv i ys H → J.go i H) (stop : ∀ ys H, Pv n ys H → J.stop n H)
    (hz : ∀ i ys H, i ≤ n → Pv i ys H → ys.length ≤ sizeLine)
    (hs : ∀ i ys H x H', i < n → Pv i ys H → J.yld i H x H' → ∀ N : List V → Hp → Prop, (∀ ys H, Pv (i + 1) ys H → N ys H) → g x (σ ++ List.replicate k none) H' fun σ2 H2 => tt σ2 H2 fun b H3 => if b = true then te σ2 H3 fun y H4 => N (ys ++ [y]) H4 else N ys H3)
    (hd : ∀ ys H, Pv n ys H → ∀ p, H p = none → Q (.ref p) (upd H p (.lst ys))) : CompGoal J k σ H g tt te Q := by
  refine ⟨fun i m ys H => m = n - i ∧ i ≤ n ∧ Pv i ys H, ⟨n, by simp, Nat.zero_le _, h0⟩, ?_⟩
  rintro i m ys H ⟨rfl, hi, p⟩
  by_cases lt : i < n
  · exact .inr ⟨go i ys H lt p, hz _ _ _ hi p, fun x H' y => hs i ys H x H' lt p y (fun ys' H' => ∃ m', m' < n - i ∧ m' = n - (i + 1) ∧ i + 1 ≤ n ∧ Pv (i + 1) ys' H') fun ys' H' q => ⟨n - (i + 1), by omega, rfl, lt, q⟩⟩
  · obtain rfl : i = n := by omega
    exact .inl ⟨stop _ _ p, hz _ _ _ hi p, hd _ _ p⟩
theorem comp_chars {x : Str} {k : Nat} {σ : St} {H : Hp} {g : TG} {tt : TT} {te : TE} {Q : VK} (p : Nat → Bool) (f : Nat → V) (hz : x.length ≤ sizeLine)
    (hs : ∀ c (Ry : VK) (Rn : Hp → Prop), (p c = true → Ry (f c) H) → (p c = false → Rn H) → g (.str ⟨#[c]⟩) (σ ++ List.replicate k none) H fun σ2 H2 => tt σ2 H2 fun b H3 => if b = true then te σ2 H3 Ry else Rn H3)
    (hd : ∀ q, H q = none → Q (.ref q) (upd H q (.lst ((x.cps.toList.filter p).map f)))) : CompGoal (Its x) k σ H g tt te Q := by
  have hlen : x.cps.toList.length = x.length := by rw [Array.length_toList]; rfl
  refine comp_by (J := Its x) (n := x.length) (fun i ys H' => H' = H ∧ ys = ((x.cps.toList.take i).filter p).map f) ⟨rfl, rfl⟩ (fun i ys H' lt _ => lt) (fun ys H' _ => Nat.le_refl _) (fun i ys H' hi q => ?_) ?_ ?_
  · obtain ⟨_, rfl⟩ := q
    rw [List.length_map]
    have a := List.length_filter_le p (x.cps.toList.take i)
    have b := List.length_take_le i x.cps.toList
    omega
  · rintro i ys H' v H2 lt ⟨rfl, rfl⟩ ⟨rfl, c, hc, rfl⟩ N hN
    have hc' : x.cps.toList[i]? = some c := by rw [Array.getElem?_toList]; exact hc
    refine hs c _ _ (fun e => hN _ _ ⟨rfl, ?_⟩) (fun e => hN _ _ ⟨rfl, ?_⟩)
    · rw [List.take_add_one, hc', List.filter_append]
      simp [e]
    · rw [List.take_add_one, hc', List.filter_append]
      simp [e]
  · rintro ys H' ⟨rfl, rfl⟩ q hq
    rw [← hlen, List.take_length]
    exact hd q hq

theorem comp_list {K : PySem.W.Frag} {a : Addr} {xs : List V} {k : Nat} {σ : St} {H : Hp} {g : TG} {tt : TT} {te : TE} {Q : VK} (Pv : Nat → List V → Hp → Prop) (h0 : Pv 0 [] H) (hl : ∀ i ys H, Pv i ys H → SqL K H a xs)
    (hz : ∀ i ys H, i ≤ xs.length → Pv i ys H → ys.length ≤ sizeLine)
    (hs : ∀ i x ys H, xs[i]? = some x → Pv i ys H → ∀ N : List V → Hp → Prop, (∀ ys H, Pv (i + 1) ys H → N ys H) → g x (σ ++ List.replicate k none) H fun σ2 H2 => tt σ2 H2 fun b H3 => if b = true then te σ2 H3 fun y H4 => N (ys ++ [y]) H4 else N ys H3)
    (hd : ∀ ys H, Pv xs.length ys H → ∀ p, H p = none → Q (.ref p) (upd H p (.lst ys))) : CompGoal (Itl K a) k σ H g tt te Q := by
  refine comp_by (J := Itl K a) (n := xs.length) Pv h0 (fun i ys H lt p => ⟨xs, xs[i], hl i ys H p, List.getElem?_eq_getElem lt⟩) (fun ys H p => ⟨xs, hl _ ys H p, Nat.le_refl _⟩) hz ?_ hd
  rintro i ys H x H' lt p ⟨rfl, y⟩ N hN
  exact hs i x ys _ (y xs (hl _ _ _ p)) p N hN
theorem comp_range {lo : Int} {n k : Nat} {σ : St} {H : Hp} {g : TG} {tt : TT} {te : TE} {Q : VK} (Pv : Nat → List V → Hp → Prop) (h0 : Pv 0 [] H)
    (hz : ∀ i ys H, i ≤ n → Pv i ys H → ys.length ≤ sizeLine)
    (hs : ∀ i ys H, i < n → Pv i ys H → ∀ N : List V → Hp → Prop, (∀ ys H, Pv (i + 1) ys H → N ys H) → g (.int (lo + i)) (σ ++ List.replicate k none) H fun σ2 H2 => tt σ2 H2 fun b H3 => if b = true then te σ2 H3 fun y H4 => N (ys ++ [y]) H4 else N ys H3)
    (hd : ∀ ys H, Pv n ys H → ∀ p, H p = none → Q (.ref p) (upd H p (.lst ys))) : CompGoal (Itr lo n) k σ H g tt te Q := by
  refine comp_by (J := Itr lo n) (n := n) Pv h0 (fun i ys H lt p => lt) (fun ys H p => Nat.le_refl _) hz ?_ hd
  rintro i ys H x H' lt p ⟨rfl, rfl⟩ N hN
  exact hs i ys _ lt p N hN

theorem pick {A B : St → Hp → Prop} {σ : St} {H : Hp} {i : Nat} {x : V} (h : A (σ.set i (some x)) H) : gName i x σ H fun σ2 H2 => tYes σ2 H2 fun b H3 => if b = true then A σ2 H3 else B σ2 H3 := by
  show if true = true then A (σ.set i (some x)) H else B (σ.set i (some x)) H
  rw [if_pos rfl]
  exact h
theorem Fun.okC {P : Program} {w : World} {K : PySem.W.Frag} {mg : Str → Option Value} {base : Heap} {CX : CXT} {x qual : Str} {st : Stmt} {f : Addr} {fd : FuncData} {N ps : List Str} {k : Nat} {sp : Sp} (F : Fun K x qual st f fd) (S : FnScope N ps (defScope st)) (len : ∀ vs H Q E, sp vs H Q E → vs.length = ps.length)
    (hbody : ∀ (cdv : Value) (A : Around) (outer : List Env) (s : Shared) (H : Hp) (vs : List V) (Q : VK) (E : XK), Room k (A.deeper (envOfC qual (defScope st) s.heap.objs.size f cdv)) → sp vs H Q E →
      ∃ t, PSs (cxOf CX P w K mg base N qual (defScope st) f cdv A outer s H E).nox (defBody st) t ∧ t { nx := fun _ H' => Q .non H', rt := Q } (start N vs) H) : FnOk P w K mg base CX (k + 1) f fd ps sp := by
  obtain ⟨oc, od, kV, doc, pm, an, cdv, ct, osl, rfl, lk, hcd⟩ := F.ex
  refine fn_of lk hcd S len fun A outer s H vs Q E hr hsp => ?_
  obtain ⟨t, h, q⟩ := hbody cdv A outer s H vs Q E hr hsp
  exact ⟨t, h.nox, q⟩
noncomputable def Calm (CX : CXT) : Prop := ∀ o H s e s', CX o H s (fun _ _ _ => False) e s' → False
theorem passC {CX : CXT} (h : Calm CX) {X : Cx} : Passes CX X E0 := fun _ _ _ _ _ _ _ q => (h _ _ _ _ _ q).elim
structure Def (K : PySem.W.Frag) (mg : Str → Option Value) (x : Str) (st : Stmt) (ps : List Str) (f : Addr) (fd : FuncData) : Prop where
  fn : Fun K x x st f fd
  at_ : mg x = some (.ref f)
  bind : Binds K fd ps []
theorem Same.new {H : Hp} {p : Addr} {o : HO} (h : H p = none) : Same H (upd H p o) := fun b u e => by rw [upd_ne (ne_of_none e h)]; exact e
end L2
-- MOD Ex5
/-! zip, tuple targets, join, index, whole slices backwards, t + u from nothing. -/
namespace L2
open PySem PySem.Spec PyProof.Rows
section
variable {X : Cx} {pins : List (Addr × Obj)} {σ : St} {H : Hp} {s : Shared}
end
section
variable {X : Cx}
theorem mt_index : MtR X "str.index" (fun x xs H Q => ∃ z y i r, x = .str z ∧ xs = [.str y] ∧ Builtin.Str.occurrences z y 0 z.length 1 = i :: r ∧ Q (.int (i : Nat)) H) := by
  intro pins s σ H x xs v us Q I rx rs h
  obtain ⟨z, y, i, r, rfl, rfl, ho, q⟩ := h
  obtain ⟨t, rfl⟩ := rx
  obtain ⟨u, rfl, ru⟩ := v1 rs
  obtain ⟨t', rfl⟩ := ru
  exact PySem.SC.index ho ⟨.int _, H, I.tok _, ⟨_, rfl⟩, q⟩
theorem strs_vals : ∀ {ks : List Str} {us : List Value}, Vals (ks.map V.str) us → ∃ l : List (Str × Tok), us = strValues l ∧ l.map (·.1) = ks
  | [], _, .nil => ⟨[], rfl, rfl⟩
  | k :: r, _, .cons a t => by
    obtain ⟨tk, rfl⟩ := a
    obtain ⟨l, e1, e2⟩ := strs_vals t
    exact ⟨(k, tk) :: l, by rw [e1]; rfl, by rw [List.map_cons, e2]⟩
theorem mt_join {K : PySem.W.Frag} (hK : X.K = K) : MtR X "str.join" (fun x xs H Q => ∃ (z : Str) (p : Addr) (ks : List Str), x = .str z ∧ xs = [.ref p] ∧ SqL K H p (ks.map V.str) ∧ PySem.JoinOk z ks = true ∧ Q (.str (Txt.join z ks)) H) := by
  subst hK
  intro pins s σ H x xs v us Q I rx rs h
  obtain ⟨z, p, ks, rfl, rfl, hp, hj, q⟩ := h
  obtain ⟨t, rfl⟩ := rx
  obtain ⟨u, rfl, ru⟩ := v1 rs
  cases (show u = Value.ref p from ru)
  obtain ⟨its, rv, pl, _⟩ := I.list hp
  obtain ⟨l, rfl, el⟩ := strs_vals rv
  exact PySem.SC.join pl.isList el hj fun t' k => ⟨.str _, H, I.tok k, ⟨t', rfl⟩, q⟩
end
end L2
-- MOD Ex6
/-! Rules whose reading names the written part itself: for use within a comprehension. -/
namespace L2
open PySem PySem.Spec PyProof.Rows
section
variable {X : Cx} {K : PySem.W.Frag} {o e : Expr} {es : List Expr} {to ta tl : TE} {t : TA} {name f : Str} {apos cpos pos : Pos} {T id : String} {r : V → List V → Hp → VK → Prop} {tg : Expr}
theorem pe_bmK (hK : X.K = K) (pa : PlainAttrs T) (slot : Slot T name id) (hty : typeOf (.builtin id) = pure (.type "method_descriptor")) (hm : MtR X id r) (ho : PE X o to) (ha : PA X (e :: es) t)
    (hbase : attributeBase o name X.env (eval o X.env) = eval o X.env := by rfl)
    (hfew : ((backTo cpos (starEach (e :: es) X.env)).all (fun x => !x.1) && (backToKw cpos (keywordEach [] X.env)).all (fun x => x.1.isSome)
      && decide ((e :: es).length + ([] : List Keyword).length + (if ([] : List Keyword).isEmpty then 0 else 1) < 30)) = true := by rfl)
    (hline : (apos.endLine == cpos.line) = true := by rfl) (hs : starEach (e :: es) X.env = (false, eval e X.env) :: starEach es X.env := by rfl) (hplain : (backTo cpos (starEach es X.env)).any (·.1) = false := by rfl) :
    PE X (.Call (.Attribute o name apos) (e :: es) [] cpos) (tBM K T r to t) := by
  subst hK
  exact pe_bm pa slot hty hm ho ha hbase hfew hline hs hplain
end
end L2
-- MOD Ex7
/-! Displays of constants, and of lists of constants, at once. -/
namespace L2
open PySem PySem.Spec PyProof.Rows
noncomputable def constV : Expr → Option V
  | .Constant (.int i) _ _ => some (.int i)
  | .Constant (.str x) _ _ => some (.str x)
  | .Constant (.bool b) _ _ => some (.bl b)
  | .Constant .none _ _ => some .non
  | _ => none
theorem const_pe {X : Cx} {e : Expr} {v : V} (h : constV e = some v) : PE X e (tC v) ∧ ∀ es, starEach (e :: es) X.env = (false, eval e X.env) :: starEach es X.env := by
  unfold constV at h
  split at h
  · cases h; exact ⟨pe_int, fun _ => rfl⟩
  · cases h; exact ⟨pe_str, fun _ => rfl⟩
  · cases h; exact ⟨pe_bl, fun _ => rfl⟩
  · cases h; exact ⟨pe_non, fun _ => rfl⟩
  · cases h
noncomputable def tConsts (vs : List V) : TA := fun _ H Q => Q vs H
theorem pa_consts {X : Cx} : ∀ {es : List Expr} {vs : List V}, es.map constV = vs.map some → PA X es (tConsts vs)
  | [], [], _ => pa_nil
  | [], _ :: _, h => by cases h
  | _ :: _, [], h => by cases h
  | e :: es, v :: vs, h => by
    rw [List.map_cons, List.map_cons] at h
    injection h with h1 h2
    obtain ⟨p, q⟩ := const_pe (X := X) h1
    exact pa_cons p (pa_consts h2) (q es)
end L2
-- MOD Ex8
/-! Tuples put together, a list backwards. -/
namespace L2
open PySem PySem.Spec PyProof.Rows
section
variable {X : Cx}
noncomputable def rCat2 (K : PySem.W.Frag) : R2 := fun x y H Q => ∃ a b xs ys, x = .ref a ∧ y = .ref b ∧ SqT K H a xs ∧ SqT K H b ys ∧ xs.length + ys.length ≤ sizeLine ∧
  (xs = [] → Q (.ref b) H) ∧ (xs ≠ [] → ys = [] → Q (.ref a) H) ∧ (xs ≠ [] → ys ≠ [] → ∀ p, H p = none → Q (.ref p) (upd H p (.tup (xs ++ ys))))
theorem op_cat2 {K : PySem.W.Frag} (hK : X.K = K) : OpR X (binaryOp .Add) (rCat2 K) := by
  subst hK
  intro pins s σ H x y v u Q I rx ry h
  obtain ⟨a, b, xs, ys, rfl, rfl, ha, hb, hz, q0, q1, q2⟩ := h
  cases rx
  cases ry
  obtain ⟨its, r1, p1, _⟩ := I.tuple ha
  obtain ⟨its2, r2, p2, _⟩ := I.tuple hb
  by_cases hx : xs = []
  · obtain ⟨⟨cls, dd, data, sl⟩, ho, hc, n, hd⟩ := id p1
    obtain ⟨⟨cls2, dd2, data2, sl2⟩, ho2, hc2, n2, hd2⟩ := id p2
    simp only at hc hd hc2 hd2
    subst hc hd hc2 hd2
    have hv : its = [] := r1.nil_iff.mpr hx
    exact concat_meets ⟨_, ho, rfl⟩ ⟨_, ho2, rfl⟩ noFill_tuple_add seq_tuple_add PySem.F.slot_tuple_add PySem.F.entry_tuple_add (PySem.F.args_tuple_add_2 _ _)
      (tuple_addW0 a b its.toArray its2.toArray n n2 dd dd2 sl sl2 (by simp [hv])) ⟨ho, ho2, .ref b, H, I, rfl, q0 hx⟩
  · refine HT.cat_tup p1 p2 (fun z => hx (r1.nil_iff.mp z)) (fun z => ⟨.ref a, H, I, rfl, q1 hx (r2.nil_iff.mp z)⟩) (fun z => ?_) (by rw [← r1.length, ← r2.length]; exact hz)
    refine ⟨.ref s.heap.objs.size, _, I.laid (t' := s.toks) (o := .tup (xs ++ ys)) (fun b ob q => Heap.get?_push_of_some _ q) (Nat.le_refl _) ?_, rfl, q2 hx (fun w => z (r2.nil_iff.mpr w)) _ (I.hok.fresh (Nat.le_refl _))⟩
    exact ⟨by rw [List.length_append]; exact hz, _, r1.append r2, IsTup.new _ _⟩
theorem cat2_by {K : PySem.W.Frag} {a b : Addr} {xs ys : List V} {H : Hp} {Q : VK} (ha : H a = some (.tup xs)) (hb : H b = some (.tup ys)) (hz : xs.length + ys.length ≤ sizeLine)
    (q : ∀ p H', Same H H' → H' p = some (.tup (xs ++ ys)) → Q (.ref p) H') : rCat2 K (.ref a) (.ref b) H Q := by
  refine ⟨a, b, xs, ys, rfl, rfl, SqT.of ha, SqT.of hb, hz, fun e => ?_, fun _ e => ?_, fun _ _ p hp => ?_⟩
  · subst e
    exact q b H (Same.refl _) hb
  · subst e
    exact q a H (Same.refl _) (by rw [List.append_nil]; exact ha)
  · exact q p _ (Same.new hp) upd_same
end
end L2
-- MOD Ex9
/-! min by a key of texts, over any heap. -/
namespace L2
open PySem PySem.Spec PyProof.Rows
noncomputable def Kept (h h' : Heap) : Prop := ∀ b o, h.get? b = some o → h'.get? b = some o
theorem Kept.trans {a b c : Heap} (x : Kept a b) (y : Kept b c) : Kept a c := fun p o e => y p o (x p o e)
noncomputable def ltS (a b : Str) : Prop := a.cps.toList < b.cps.toList
noncomputable instance (a b : Str) : Decidable (ltS a b) := inferInstanceAs (Decidable (a.cps.toList < b.cps.toList))
section
variable {P : Program} {w : World} {A : Around} {E : Value → Shared → Prop} {z : Shared} {g : Heap} {l q I S : Addr} {vs : List Value} {R : Result → Shared → Prop}
end
end L2
-- MOD Ex10
/-! A lambda that tells an attribute, as min's key; the table of places in its def's code. -/
namespace L2
open PySem PySem.Spec PyProof.Rows
section
variable {X : Cx} {pins : List (Addr × Obj)} {σ : St} {H : Hp} {s : Shared} {A : Around} {E : Value → Shared → Prop}
end
section
variable {P : Program} {w : World} {A : Around} {z : Shared}
end
section
variable {X : Cx}
end
end L2
-- MOD Ex11
/-! The head of a law whose defs make one lambda: the table of its places is tracked from the beginning. -/
namespace L2
open PySem PySem.Spec PyProof.Rows
end L2
-- MOD Ex12
/-! enumerate, dicts walked (frozen from then on), their values, list(d), min and sorted of texts. -/
namespace L2
open PySem PySem.Spec PyProof.Rows
section
variable {X : Cx}
end
/-! ### a dict that is walked: from then on it is known to its object -/
noncomputable def Froze (H : Hp) (d : Addr) (kvs : List (Key × V)) (H' : Hp) : Prop := ∃ o, H' = upd H d (.frz o (.dK kvs))
theorem Froze.at {H H' : Hp} {d : Addr} {kvs : List (Key × V)} (z : Froze H d kvs H') : Rd H' d (.dK kvs) := by
  obtain ⟨o, rfl⟩ := z
  exact .inr ⟨o, upd_same⟩
section
variable {X : Cx} {pins : List (Addr × Obj)} {σ : St} {H : Hp} {s : Shared} {d : Addr} {kvs : List (Key × V)}
end
theorem KV.len {κ : Type} {kvs : List (κ × V)} {vs : List (κ × Value)} (h : KV kvs vs) : kvs.length = vs.length := Paired.length h
section
variable {X : Cx} {tg : Expr}
end
end L2
-- MOD Ex13
/-! dict(list of pairs). -/
namespace L2
open PySem PySem.Spec PyProof.Rows
section
variable {P : Program} {w : World} {A : Around} {E : Value → Shared → Prop}
end
section
variable {X : Cx}
end
end L2
-- MOD Ex14
namespace L2
open PySem PySem.Spec PyProof.Rows
section
variable {X : Cx}
end
structure FunL (K : PySem.W.Frag) (x qual : Str) (st : Stmt) (f : Addr) (fd : FuncData) (c : Addr) : Prop where
  ex : ∃ (oc : Value) (od : Option Addr) (kV doc pm : Value) (an : Option Addr) (ct : Value) (osl : Array (Option Value)),
    fd = PySem.W.fnOf x qual (defArgs st) (defBody st) (defScope st) .none kV doc pm an (.ref c) ct ∧ K.lookup f = some ⟨oc, od, .func fd, osl⟩ ∧ PySem.W.codeIn K (.ref c) qual = true
  kp : PySem.W.keepIn K (.ref f) = true
theorem FunL.okC {P : Program} {w : World} {K : PySem.W.Frag} {mg : Str → Option Value} {base : Heap} {CX : CXT} {x qual : Str} {st : Stmt} {f c : Addr} {fd : FuncData} {N ps : List Str} {k : Nat} {sp : Sp} (F : FunL K x qual st f fd c) (S : FnScope N ps (defScope st)) (len : ∀ vs H Q E, sp vs H Q E → vs.length = ps.length)
    (hbody : ∀ (A : Around) (outer : List Env) (s : Shared) (H : Hp) (vs : List V) (Q : VK) (E : XK), Room k (A.deeper (envOfC qual (defScope st) s.heap.objs.size f (.ref c))) → sp vs H Q E →
      ∃ t, PSs (cxOf CX P w K mg base N qual (defScope st) f (.ref c) A outer s H E).nox (defBody st) t ∧ t { nx := fun _ H' => Q .non H', rt := Q } (start N vs) H) : FnOk P w K mg base CX (k + 1) f fd ps sp := by
  obtain ⟨oc, od, kV, doc, pm, an, ct, osl, rfl, lk, hcd⟩ := F.ex
  refine fn_of lk hcd S len fun A outer s H vs Q E hr hsp => ?_
  obtain ⟨t, h, q⟩ := hbody A outer s H vs Q E hr hsp
  exact ⟨t, h.nox, q⟩
end L2
-- MOD Ex15
/-! Texts: split, startswith, steps of two, f-texts, int(text). -/
namespace L2
open PySem PySem.Spec PyProof.Rows
/-! ### a text put together of words without the sign parts into them again -/
/-! ### each second one -/
end L2
-- MOD Ex16
/-! The rules over texts. -/
namespace L2
open PySem PySem.Spec PyProof.Rows
section
variable {X : Cx}
/-! ### f-texts -/
end
end L2
-- MOD Ex17
/-! A dict whose keys are texts and None. -/
namespace L2
open PySem PySem.Spec PyProof.Rows
noncomputable abbrev OKey := Option Str
section
variable {P : Program} {w : World} {H : Hp} {h : Heap} {a : Addr} {kvs : List (OKey × V)}
end
section
variable {X : Cx} {o i e value : Expr} {pos pos' tpos : Pos} {td ty tv tk : TE}
end
end L2
-- MOD Ex18
/-! Numbers as figures, words with points between. -/
namespace L2
open PySem PySem.Spec PyProof.Rows
end L2
-- MOD ExW
/-! The judgements as closed words of their own, and each rule over them. -/
namespace L2.W
open PySem PySem.Spec PyProof.Rows
@[irreducible] noncomputable def PE (X : Cx) (e : Expr) (t : TE) : Prop := L2.PE X e t
theorem ePE : @L2.PE = @PE := by unfold PE; rfl
@[irreducible] noncomputable def PT (X : Cx) (e : Expr) (t : TT) : Prop := L2.PT X e t
theorem ePT : @L2.PT = @PT := by unfold PT; rfl
@[irreducible] noncomputable def PW (X : Cx) (e : Expr) (t : TT) : Prop := L2.PW X e t
theorem ePW : @L2.PW = @PW := by unfold PW; rfl
@[irreducible] noncomputable def PA (X : Cx) (es : List Expr) (t : TA) : Prop := L2.PA X es t
theorem ePA : @L2.PA = @PA := by unfold PA; rfl
@[irreducible] noncomputable def PS (X : Cx) (st : Stmt) (t : TS) : Prop := L2.PS X st t
theorem ePS : @L2.PS = @PS := by unfold PS; rfl
@[irreducible] noncomputable def PSs (X : Cx) (st : List Stmt) (t : TS) : Prop := L2.PSs X st t
theorem ePSs : @L2.PSs = @PSs := by unfold PSs; rfl
@[irreducible] noncomputable def PG (X : Cx) (g : Expr) (t : TG) : Prop := L2.PG X g t
theorem ePG : @L2.PG = @PG := by unfold PG; rfl
@[irreducible] noncomputable def PI (X : Cx) (tg iter : Expr) (wi : TI) : Prop := L2.PI X tg iter wi
theorem ePI : @L2.PI = @PI := by unfold PI; rfl
@[irreducible] noncomputable def PFs (X : Cx) (ifs : List Expr) (t : TT) : Prop := L2.PFs X ifs t
theorem ePFs : @L2.PFs = @PFs := by unfold PFs; rfl
noncomputable def ps_if := by have h := @L2.ps_if; rw [ePS, ePSs, ePT] at h; exact @h
noncomputable def pe_fld := by have h := @L2.pe_fld; rw [ePE] at h; exact @h
noncomputable def pt_val := by have h := @L2.pt_val; rw [ePE, ePT] at h; exact @h
noncomputable def ps_asg := by have h := @L2.ps_asg; rw [ePE, ePS, ePG] at h; exact @h
noncomputable def pe_callTy := by have h := @L2.pe_callTy; rw [ePE, ePA] at h; exact @h
noncomputable def pe_callB := by have h := @L2.pe_callB; rw [ePE, ePA] at h; exact @h
noncomputable def ps_ret := by have h := @L2.ps_ret; rw [ePE, ePS] at h; exact @h
noncomputable def fn_of := by have h := @L2.fn_of; rw [ePSs] at h; exact @h
noncomputable def pe_make := by have h := @L2.pe_make; rw [ePE, ePA] at h; exact @h
noncomputable def pe_ix := by have h := @L2.pe_ix; rw [ePE] at h; exact @h
noncomputable def pe_bm := by have h := @L2.pe_bm; rw [ePE, ePA] at h; exact @h
noncomputable def pw_and1 := by have h := @L2.pw_and1; rw [ePT, ePW] at h; exact @h
noncomputable def pe_and := by have h := @L2.pe_and; rw [ePE] at h; exact @h
noncomputable def pe_op := by have h := @L2.pe_op; rw [ePE] at h; exact @h
noncomputable def pv := by have h := @L2.pv; rw [ePE] at h; exact @h
noncomputable def ps_fld := by have h := @L2.ps_fld; rw [ePE, ePS] at h; exact @h
noncomputable def pss_one := by have h := @L2.pss_one; rw [ePS, ePSs] at h; exact @h
noncomputable def pe_bltn := by have h := @L2.pe_bltn; rw [ePE] at h; exact @h
noncomputable def pss_cons := by have h := @L2.pss_cons; rw [ePS, ePSs] at h; exact @h
noncomputable def bin := by have h := @L2.bin; rw [ePE] at h; exact @h
noncomputable def pc_notN := by have h := @L2.pc_notN; rw [ePE] at h; exact @h
noncomputable def pss_never := by have h := @L2.pss_never; rw [ePSs] at h; exact @h
noncomputable def pe_glob := by have h := @L2.pe_glob; rw [ePE] at h; exact @h
noncomputable def pe_var := by have h := @L2.pe_var; rw [ePE] at h; exact @h
noncomputable def pg_name := by have h := @L2.pg_name; rw [ePG] at h; exact @h
noncomputable def pi_range1 := by have h := @L2.pi_range1; rw [ePA, ePI] at h; exact @h
noncomputable def ps_for := by have h := @L2.ps_for; rw [ePS, ePSs, ePG, ePI] at h; exact @h
noncomputable def pt_cmpR := by have h := @L2.pt_cmpR; rw [ePE, ePT] at h; exact @h
noncomputable def pe_call := by have h := @L2.pe_call; rw [ePE, ePA] at h; exact @h
noncomputable def pw_or1 := by have h := @L2.pw_or1; rw [ePT, ePW] at h; exact @h
noncomputable def pe_tup := by have h := @L2.pe_tup; rw [ePE, ePA] at h; exact @h
noncomputable def pe_one := by have h := @L2.pe_one; rw [ePE] at h; exact @h
noncomputable def binT := by have h := @L2.binT; rw [ePE] at h; exact @h
noncomputable def pe_cmpR := by have h := @L2.pe_cmpR; rw [ePE] at h; exact @h
noncomputable def pss_nil := by have h := @L2.pss_nil; rw [ePSs] at h; exact @h
noncomputable def PW.pt := by have h := @L2.PW.pt; rw [ePT, ePW] at h; exact @h
noncomputable def pw_and := by have h := @L2.pw_and; rw [ePT, ePW] at h; exact @h
noncomputable def pt_cmp := by have h := @L2.pt_cmp; rw [ePT] at h; exact @h
noncomputable def pe_slice := by have h := @L2.pe_slice; rw [ePE] at h; exact @h
noncomputable def pe_chain := by have h := @L2.pe_chain; rw [ePE] at h; exact @h
noncomputable def pa_nil := by have h := @L2.pa_nil; rw [ePA] at h; exact @h
noncomputable def pe_int := by have h := @L2.pe_int; rw [ePE] at h; exact @h
noncomputable def pi_list := by have h := @L2.pi_list; rw [ePE, ePI] at h; exact @h
noncomputable def PT.nox := by have h := @L2.PT.nox; rw [ePT] at h; exact @h
noncomputable def pe_str := by have h := @L2.pe_str; rw [ePE] at h; exact @h
noncomputable def ps_set := by have h := @L2.ps_set; rw [ePE, ePS] at h; exact @h
noncomputable def pe_bl := by have h := @L2.pe_bl; rw [ePE] at h; exact @h
noncomputable def po_some := by have h := @L2.po_some; rw [ePE] at h; exact @h
noncomputable def Fun.ok := by have h := @L2.Fun.ok; rw [ePSs] at h; exact @h
noncomputable def pt_not := by have h := @L2.pt_not; rw [ePT] at h; exact @h
noncomputable def pe_not := by have h := @L2.pe_not; rw [ePE] at h; exact @h
noncomputable def pg_sub := by have h := @L2.pg_sub; rw [ePE, ePG] at h; exact @h
noncomputable def pe_non := by have h := @L2.pe_non; rw [ePE] at h; exact @h
noncomputable def pe_lst := by have h := @L2.pe_lst; rw [ePE, ePA] at h; exact @h
noncomputable def PSs.nox := by have h := @L2.PSs.nox; rw [ePSs] at h; exact @h
noncomputable def pa_cons := by have h := @L2.pa_cons; rw [ePE, ePA] at h; exact @h
noncomputable def PE.nox := by have h := @L2.PE.nox; rw [ePE] at h; exact @h
noncomputable def ps_expr := by have h := @L2.ps_expr; rw [ePE, ePS] at h; exact @h
noncomputable def pw_or := by have h := @L2.pw_or; rw [ePT, ePW] at h; exact @h
noncomputable def comp_run := by have h := @L2.comp_run; rw [ePE, ePG, ePFs] at h; exact @h
noncomputable def ps_setComp := by have h := @L2.ps_setComp; rw [ePE, ePS, ePG, ePI, ePFs] at h; exact @h
noncomputable def pe_comp := by have h := @L2.pe_comp; rw [ePE, ePG, ePI, ePFs] at h; exact @h
noncomputable def pf_nil := by have h := @L2.pf_nil; rw [ePFs] at h; exact @h
noncomputable def pi_str := by have h := @L2.pi_str; rw [ePE, ePI] at h; exact @h
noncomputable def Fun.okC := by have h := @L2.Fun.okC; rw [ePSs] at h; exact @h
noncomputable def pe_bmK := by have h := @L2.pe_bmK; rw [ePE, ePA] at h; exact @h
noncomputable def pa_consts := by have h := @L2.pa_consts; rw [ePA] at h; exact @h
noncomputable def const_pe := by have h := @L2.const_pe; rw [ePE] at h; exact @h
noncomputable def FunL.okC := by have h := @L2.FunL.okC; rw [ePSs] at h; exact @h
end L2.W
-- MOD Exc
/-! Exceptions of own classes under ValueError: raised, passed on, caught. -/
namespace L2
open PySem PySem.Spec PyProof.Rows
noncomputable def XO (C a : Addr) : HO := .ext fun h => ∃ o vs, h.get? a = some o ∧ o.cls = .ref C ∧ o.data = .fields vs
section
variable {P : Program} {w : World} {H : Hp} {h : Heap} {a C : Addr} {o : HO}
theorem xo_ok {ob : Obj} {vs : Array Value} (e : h.get? a = some ob) (c : ob.cls = .ref C) (d : ob.data = .fields vs) : ObjOk P w H h a (XO C a) :=
  ⟨⟨ob, vs, e, c, d⟩, ⟨ob, e⟩, fun _ _ ⟨o, vs, e, c, d⟩ k => ⟨o, vs, k _ e, c, d⟩⟩
theorem xo_of (ok : HOk P w H h) (e : H a = some (XO C a)) : ∃ o vs, h.get? a = some o ∧ o.cls = .ref C ∧ o.data = .fields vs := (show ObjOk P w H h a (XO C a) from ok a _ e).1
theorem ObjOk.ex (x : ObjOk P w H h a o) : ∃ ob, h.get? a = some ob := by
  cases o with
  | lst xs => obtain ⟨_, _, _, _, e⟩ := x; exact ⟨_, e⟩
  | tup xs => obtain ⟨_, _, _, ob, e, _⟩ := x; exact ⟨_, e⟩
  | dK kvs => obtain ⟨_, _, _, _, o, _, _, e, _⟩ := x; exact ⟨_, e⟩
  | dT kvs => obtain ⟨_, _, _, _, o, _, _, e, _⟩ := x; exact ⟨_, e⟩
  | set S n => obtain ⟨o, _, _, _, e, _⟩ := x; exact ⟨_, e⟩
  | ins C dx fs => obtain ⟨_, _, _, e, _⟩ := x; exact ⟨_, e⟩
  | own y => exact x
  | xd fs => obtain ⟨_, ⟨_, _, _, e, _⟩, _⟩ := x; exact ⟨_, e⟩
  | rng lo hi => obtain ⟨_, _, _, e⟩ := x; exact ⟨_, e⟩
  | frz ob u => exact ⟨_, x.1⟩
  | tbl ps => exact ⟨_, x⟩
  | met f y => exact ⟨_, x⟩
  | ext φ => exact x.2.1
theorem HOk.noth (ok : HOk P w H h) (e : h.get? a = none) : H a = none := by
  cases q : H a with
  | none => rfl
  | some u =>
    obtain ⟨ob, eb⟩ := (ok a u q).ex
    rw [e] at eb
    cases eb
end
noncomputable def Tr (G : Addr → Prop) (H : Hp) (h : Heap) (e : Addr) : Prop := ∃ o vs a0 T oT ts, h.get? e = some o ∧ o.data = .fields vs ∧ vs[0]? = some a0 ∧ vs[1]? = some (.ref T) ∧ G T ∧ H T = none ∧ h.get? T = some oT ∧ oT.data = .fields ts ∧ ts[3]? = some .none
noncomputable def Fresh (h : Heap) (e : Addr) : Prop := ∃ o vs a0, h.get? e = some o ∧ o.data = .fields vs ∧ vs[0]? = some a0 ∧ vs[1]? = some .none
theorem Tr.imp {G G' : Addr → Prop} {H : Hp} {h : Heap} {e : Addr} (x : Tr G H h e) (f : ∀ T, G T → G' T) : Tr G' H h e :=
  let ⟨o, vs, a0, T, oT, ts, h1, h2, h3, h4, g, r⟩ := x
  ⟨o, vs, a0, T, oT, ts, h1, h2, h3, h4, f _ g, r⟩
noncomputable def CXM (P : Program) (w : World) : CXT := fun outer H s E u s' => ∃ e C H', u = .ref e ∧ s'.os = s.os ∧ AllBare s'.gens ∧ Un (frs outer) [] H H' s.heap s'.heap ∧ HOk P w H' s'.heap ∧ H' e = some (XO C e) ∧ Tr (fun T => s.heap.get? T = none) H' s'.heap e ∧ E (.ref C) (some e) H'
theorem calmM {P : Program} {w : World} : Calm (CXM P w) := fun _ _ _ _ _ ⟨_, _, _, _, _, _, _, _, _, _, q⟩ => q

/-! ### what passing writes -/
structure Mvd (l : List Env) (e T0 : Addr) (cls a0 fl : Value) (h h' : Heap) : Prop where
  keep : ∀ b o, h.get? b = some o → b ≠ e → b ≠ T0 → b ∉ frs l → h'.get? b = some o
  slot : ∀ b o, h.get? b = some o → b ∈ frs l → ∃ sl, h'.get? b = some { o with slots := sl }
  tr : ∃ oe vs T oT ts, h'.get? e = some oe ∧ oe.cls = cls ∧ vs[0]? = some a0 ∧ oe.data = .fields vs ∧ vs[1]? = some (.ref T) ∧ (T = T0 ∨ h.get? T = none) ∧ T ≠ e ∧ h'.get? T = some oT ∧ oT.data = .fields ts ∧ ts[3]? = some fl
noncomputable abbrev bas (h : Heap) (l : List Env) (e T0 : Addr) : Heap := PySem.W.hideAll h (e :: T0 :: frs l)
section
variable {base h h' : Heap} {l : List Env} {e T0 : Addr} {cls a0 fl : Value}
theorem moved (hl : h.FunFrames base l) (st : (bas h l e T0).StaysIn h') (ff : h'.FunFrames (bas h l e T0) l) (tr : h'.TracedAtW (bas h l e T0) e cls a0 fl) (up : h.UpToSlots h') : Mvd l e T0 cls a0 fl h h' := by
  refine ⟨fun b o q n1 n2 n3 => st b o (PySem.W.hideAll_get _ q ?_), fun b o q hb => ?_, ?_⟩
  · intro z
    rcases List.mem_cons.mp z with z | z
    · exact n1 z
    · rcases List.mem_cons.mp z with z | z
      · exact n2 z
      · exact n3 z
  · obtain ⟨_, o', ho, hn⟩ := hl.mem hb
    rw [q] at ho
    cases ho
    exact up b o q hn
  · obtain ⟨oe, vs, T, oT, ts, he, ⟨hc, h0⟩, hd, h1, hn, hne, hT, hdT, h3⟩ := tr
    refine ⟨oe, vs, T, oT, ts, he, hc, h0, hd, h1, ?_, hne, hT, hdT, h3⟩
    cases q : h.get? T with
    | none => exact .inr rfl
    | some o =>
      refine .inl (Classical.byContradiction fun nT => ?_)
      have : (bas h l e T0).get? T = some o := PySem.W.hideAll_get _ q fun z => by
        rcases List.mem_cons.mp z with z | z
        · exact hne z
        · rcases List.mem_cons.mp z with z | z
          · exact nT z
          · obtain ⟨_, o', ho, hnf⟩ := ff.mem z
            rw [hT] at ho
            cases ho
            exact hnf _ hdT
      rw [hn] at this
      cases this
theorem fly_of (hl : h.FunFrames base l) {oe oT : Obj} {vs ts : Array Value} (he : h.get? e = some oe) (hd : oe.data = .fields vs) (h0 : vs[0]? = some a0) (h1 : vs[1]? = some (.ref T0)) (hne : T0 ≠ e) (hT : h.get? T0 = some oT) (hdT : oT.data = .fields ts) (h3 : ts[3]? = some .none) :
    Heap.FlyingW (bas h l e T0) l e oe.cls a0 h :=
  ⟨fun b o q => PySem.W.of_hideAll _ q, PySem.W.hideAll_none _ (.head _), PySem.W.funFrames_hide hl fun env he a ea => .tail _ (.tail _ (List.mem_filterMap.mpr ⟨env, he, ea⟩)), oe, vs, T0, oT, ts, he, ⟨rfl, h0⟩, hd, h1, PySem.W.hideAll_none _ (.tail _ (.head _)), hne, hT, hdT, h3⟩
end
section
variable {X : Cx} {pins : List (Addr × Obj)} {σ : St} {H : Hp} {s : Shared} {e C T0 : Addr} {h' : Heap} {cls a0 fl : Value}
theorem Mvd.ex (m : Mvd X.stack e T0 cls a0 fl s.heap h') (b : Addr) (o : Obj) (q : s.heap.get? b = some o) (h2 : b ≠ T0) : ∃ o', h'.get? b = some o' := by
  obtain ⟨oe, _, _, _, _, he, _⟩ := m.tr
  by_cases h1 : b = e
  · rw [h1]; exact ⟨oe, he⟩
  · by_cases h3 : b ∈ frs X.stack
    · obtain ⟨sl, z⟩ := m.slot b o q h3
      exact ⟨_, z⟩
    · exact ⟨o, m.keep b o q h1 h2 h3⟩
theorem Mvd.hok (m : Mvd X.stack e T0 (.ref C) a0 fl s.heap h') (I : Inv X pins σ H s) (he : H e = some (XO C e)) (hT : T0 = e ∨ H T0 = none) : HOk X.prog X.w H h' := fun b u eb => by
  by_cases h1 : b = e
  · subst h1
    rw [he] at eb
    cases eb
    obtain ⟨oe, vs, _, _, _, h2, h3, _, h4, _⟩ := m.tr
    exact xo_ok h2 h3 h4
  · refine (I.hok b u eb).stay (fun c v hc q => m.keep c v q ?_ ?_ ?_) (fun _ q => q) fun _ _ q => q
    · rintro rfl
      rcases hc with z | z
      · exact h1 z.symm
      · rw [he] at z; cases z
    · rintro rfl
      rcases hT with z | z
      · subst z
        rcases hc with z | z
        · exact h1 z.symm
        · rw [he] at z; cases z
      · rcases hc with y | y
        · rw [← y, z] at eb; cases eb
        · rw [z] at y; cases y
    · intro z
      have := I.stkFree c z
      rcases hc with y | y
      · rw [← y, this] at eb; cases eb
      · rw [this] at y; cases y
theorem Inv.moved {t' : Nat} (I : Inv X pins σ H s) (he : H e = some (XO C e)) (hT : H T0 = none) (h0 : X.s₀.heap.get? T0 = none) (hp : ∀ p ∈ X.pn ++ pins, p.1 ≠ T0) {oT : Obj} {ts : Array Value} (eT : s.heap.get? T0 = some oT) (dT : oT.data = .fields ts)
    (m : Mvd X.stack e T0 (.ref C) a0 fl s.heap h') : Inv X pins σ H { s with heap := h', toks := t' } := by
  have nL : T0 ≠ X.env.locals := by
    rintro rfl
    obtain ⟨_, ⟨o, es, ep, ho, hd, _⟩, _⟩ := I.loc
    rw [ho] at eT; cases eT; rw [hd] at dT; cases dT
  have nC : ∀ x c, X.env.cells.lookup x = some c → c ≠ T0 := by
    rintro x c hc rfl
    obtain ⟨v, o, ho, hd⟩ := I.cell x c hc
    rw [ho] at eT; cases eT; rw [hd] at dT; cases dT
  have neS : ∀ b, H b = none → b ≠ e := fun b n z => by rw [z, he] at n; cases n
  have sub : ∀ b, b ∈ X.fs → b ∈ frs X.stack := fun b hb => by
    rcases I.ok.stk with z | ⟨z, hf⟩
    · rw [z]; exact hb
    · rw [z]; unfold frs; rw [List.filterMap_cons, hf]; exact List.mem_cons_of_mem _ hb
  refine I.step (g' := s.gens) (d' := s.drawn) (ch := [T0]) (fun b hb => ?_) (fun b o n1 n2 n3 q n => m.keep b o q (neS b n) (fun z => n3 (by simp [z])) fun z => (List.mem_cons.mp (I.stkSub b z)).elim n1 n2)
    (fun b o n1 n2 n3 q n => m.slot b o q (sub b n2)) (fun b o _ _ n => n) (fun b o n q => m.ex b o q fun z => n (by simp [z])) (fun _ _ q => q) (fun _ _ _ q => q) (fun b ps q => ⟨#[], by rw [q]; simp⟩) (fun mm hm => ?_) (m.hok I he (.inr hT)) I.bare
  · have : b = T0 := by simpa using hb
    subst this
    exact ⟨.inr h0, nL, nC, hp⟩
  · obtain ⟨o, es, ep, ho, hd, r⟩ := hm
    by_cases z : X.env.locals ∈ frs X.stack
    · obtain ⟨sl, q⟩ := m.slot _ _ ho z
      exact ⟨_, es, ep, q, hd, r⟩
    · exact ⟨o, es, ep, m.keep _ _ ho (neS _ I.free) (Ne.symm nL) z, hd, r⟩
theorem leave_cx {E : XK} {E' : Value → Shared → Prop} (I : Inv X pins σ H s) (hx : X.ex = []) (hs : X.stack = X.env :: X.outer) (hf : X.env.frame = some X.env.locals) (he : H e = some (XO C e)) (fl : Fresh s.heap e ∨ Tr (fun T => X.s₀.heap.get? T = none) H s.heap e) (q : E (.ref C) (some e) H) :
    wpAny (model X.prog X.w) X.A (leaving X.env (.ref e)) (fun _ s'' => CXM X.prog X.w X.outer X.H₀ X.s₀ E (.ref e) s'') E' s := by
  have hfr : X.A.frames = some (X.env :: X.outer) := by rw [← hs]; exact I.ok.frames
  have hl : s.heap.FunFrames X.base (X.env :: X.outer) := by rw [← hs]; exact I.stack
  obtain ⟨ox, vx, hox, hcx, hdx⟩ := xo_of I.hok he
  have fin : ∀ (T0 : Addr) (h' : Heap) (a0 : Value), (T0 = e ∨ (H T0 = none ∧ X.s₀.heap.get? T0 = none)) → Mvd X.stack e T0 (.ref C) a0 .none s.heap h' → CXM X.prog X.w X.outer X.H₀ X.s₀ E (.ref e) { s with heap := h' } := by
    intro T0 h' a0 hT m
    have hT1 : T0 = e ∨ H T0 = none := hT.imp_right fun z => z.1
    have back : ∀ b o, X.s₀.heap.get? b = some o → ∃ o', s.heap.get? b = some o' := fun b o z => I.base.there b o z (by rw [hx]; simp)
    have nT : ∀ b o, X.s₀.heap.get? b = some o → H b = none → b ≠ T0 := fun b o z n y => by
      rcases hT with w | ⟨_, w⟩
      · rw [y, w, he] at n; cases n
      · rw [y, w] at z; cases z
    have nE : ∀ b, H b = none → b ≠ e := fun b n z => by rw [z, he] at n; cases n
    have nL : ∀ b o, X.s₀.heap.get? b = some o → b ≠ X.env.locals := fun b o z => Nat.ne_of_lt (Nat.lt_of_lt_of_le (Heap.lt_size z) I.ok.above)
    have inS : ∀ b, b ∈ frs X.stack → b = X.env.locals ∨ b ∈ frs X.outer := fun b z => List.mem_cons.mp (I.stkSub b z)
    obtain ⟨oe, vs, T, oT, ts, h1, h2, h3, h4, h5, h6, h7, h8, h9, h10⟩ := m.tr
    refine ⟨e, C, H, rfl, I.os, I.bare, ⟨fun b o z n hb _ => ?_, fun b o z n hb _ => ?_, fun b o z n _ => I.base.free b o z n (by rw [hx]; simp), fun b o z _ => ?_, I.base.tups, I.base.frzs, I.base.tbls⟩, m.hok I he hT1, he, ⟨oe, vs, a0, T, oT, ts, h1, h4, h3, h5, ?_, ?_, h8, h9, h10⟩, q⟩
    · have n' := I.base.free b o z n (by rw [hx]; simp)
      exact m.keep b o (I.base.keep b o z n hb (by rw [hx]; simp)) (nE b n') (nT b o z n') fun y => (inS b y).elim (nL b o z) hb
    · obtain ⟨sl, z1⟩ := I.base.slot b o z n hb (by rw [hx]; simp)
      obtain ⟨sl', z2⟩ := m.slot b _ z1 (by rw [hs]; unfold frs; rw [List.filterMap_cons, hf]; exact List.mem_cons_of_mem _ hb)
      exact ⟨sl', z2⟩
    · obtain ⟨o', z1⟩ := back b o z
      by_cases y : b = T0
      · rcases hT with w | ⟨_, w⟩
        · rw [y, w]; exact ⟨oe, h1⟩
        · rw [y, w] at z; cases z
      · exact m.ex b o' z1 y
    · show X.s₀.heap.get? T = none
      rcases h6 with z | z
      · rcases hT with y | ⟨_, y⟩
        · exact absurd (z.trans y) h7
        · rw [z]; exact y
      · cases y : X.s₀.heap.get? T with
        | none => rfl
        | some o =>
          obtain ⟨o', y1⟩ := back T o y
          rw [z] at y1; cases y1
    · rcases h6 with z | z
      · rcases hT with y | ⟨y, _⟩
        · exact absurd (z.trans y) h7
        · rw [z]; exact y
      · exact I.hok.noth z
  rcases fl with ⟨oe, vs, a0, h1, h2, h3, h4⟩ | ⟨oe, vs, a0, T0, oT, ts, h1, h2, h3, h4, g, n, h5, h6, h7⟩
  · rw [h1] at hox; cases hox
    refine wpAny_leaving_firstW (base := bas s.heap (X.env :: X.outer) e e) (a0 := a0) hfr (PySem.W.funFrames_hide hl fun env he a ea => .tail _ (.tail _ (List.mem_filterMap.mpr ⟨env, he, ea⟩))) hf h1 (fun b o z => PySem.W.of_hideAll _ z) (PySem.W.hideAll_none _ (.head _)) h2 h4 h3 fun h' hL => ?_
    obtain ⟨k1, k2, k3, k4⟩ := hL
    rw [hcx] at k3
    refine fin e h' a0 (.inl rfl) ?_
    rw [hs]
    exact L2.moved hl k1 k2 k3 k4
  · rw [h1] at hox; cases hox
    have hne : T0 ≠ e := fun z => by rw [z, he] at n; cases n
    have F := fly_of hl h1 h2 h3 h4 hne h5 h6 h7
    rw [hcx] at F
    refine wpAny_leaving_nextW hfr F.2.2.1 hf F.2.2.2 F.1 F.2.1 fun h' hL => ?_
    obtain ⟨k1, k2, k3, k4⟩ := hL
    have m := L2.moved hl k1 k2 k3 k4
    exact fin T0 h' a0 (.inr ⟨n, g⟩) (by rw [hs]; exact m)
end
end L2
-- MOD Exc2
/-! raise C(..), an exception of a callee. -/
namespace L2
open PySem PySem.Spec PyProof.Rows
theorem exc_obj {K : PySem.W.Frag} {h : Heap} {C : Addr} {bmB : List Value} {newId : String} (X : K.In h) (q : PySem.W.excIn K C bmB newId = true) :
    ∃ bm N nm q bs hdct sn sub ab col dd k0 k1 k2 k3 k5 mN, h.get? C = some (excClassObj nm q C N bs bm hdct sn sub ab col dd k0 k1 k2 k3 k5 newId) ∧ h.Ns N mN ∧ mN "__init__" = none ∧ OwnTail h bmB bm := by
  unfold PySem.W.excIn at q
  split at q
  · rename_i dd cd sl ho
    split at q
    · rename_i C' bm k0 k1 k2 k3 n k5 hm hs
      simp only [Bool.and_eq_true, beq_iff_eq, Bool.not_eq_true'] at q
      obtain ⟨⟨⟨⟨⟨rfl, rfl⟩, hdel⟩, ht⟩, hok⟩, hni⟩ := q
      obtain ⟨nm, bs, mro, ns, qn, hd, sn, sub, ab, col, del⟩ := cd
      dsimp only at hm hdel hok hni
      subst hm hdel
      have hsl : sl = #[k0, k1, k2, k3, some (.builtin n), k5] := by
        obtain ⟨l⟩ := sl
        simp only at hs
        rw [hs]
      subst hsl
      exact ⟨bm, ns, nm, qn, bs, hd, sn, sub, ab, col, dd, k0, k1, k2, k3, k5, _, X _ _ ho, .of_isNs (PySem.W.isNs_of_in X hok), PySem.W.nsMap_none_of_in X hok hni, PySem.W.tail_of_in X ht⟩
    · cases q
  · cases q
section
variable {X : Cx} {pins : List (Addr × Obj)} {σ : St} {H H' : Hp} {s : Shared} {e C : Addr} {h h' : Heap} {o : HO}
theorem Un.born {fs ex : List Addr} (k : ∀ b u, h.get? b = some u → h'.get? b = some u) (hp : h.get? e = none) (hn : H e = none) : Un fs ex H (upd H e o) h h' where
  keep := fun b u q _ _ _ => k b u q
  slot := fun b u q _ _ _ => ⟨u.slots, k b u q⟩
  free := fun b u q n _ => by rw [upd_ne (fun z => by rw [z, hp] at q; cases q)]; exact n
  there := fun b u q _ => ⟨u, k b u q⟩
  tups := fun b xs q => by rw [upd_ne (ne_of_none q hn)]; exact q
  frzs := fun b u xs q => by rw [upd_ne (ne_of_none q hn)]; exact q
  tbls := fun b ps q => ⟨#[], by rw [upd_ne (ne_of_none q hn), q]; simp⟩
theorem HOk.born {P : Program} {w : World} (x : HOk P w H h) (k : ∀ b u, h.get? b = some u → h'.get? b = some u) (hp : h.get? e = none) (new : ObjOk P w (upd H e o) h' e o) : HOk P w (upd H e o) h' := fun b u q => by
  have hn := x.noth hp
  by_cases hb : b = e
  · subst hb; rw [upd_same] at q; cases q; exact new
  · rw [upd_ne hb] at q
    exact (x b u q).stay (fun c v _ q => k c v q) (fun c q => by rw [upd_ne (ne_of_none q hn)]; exact q) fun c xs q => by rw [upd_ne (ne_of_none q hn)]; exact q
theorem Inv.born {t' : Nat} (I : Inv X pins σ H s) (k : ∀ b u, s.heap.get? b = some u → h'.get? b = some u) (hp : s.heap.get? e = none) (new : ObjOk X.prog X.w (upd H e o) h' e o) : Inv X pins σ (upd H e o) { s with heap := h', toks := t' } :=
  I.un (Un.born k hp (I.hok.noth hp)) (I.hok.born k hp new)
theorem Inv.cx {s' : Shared} {E : XK} {u : Value} (I : Inv X pins σ H s) (c : CXM X.prog X.w X.stack H s E u s') :
    ∃ e C H', u = .ref e ∧ Inv X pins σ H' s' ∧ H' e = some (XO C e) ∧ Tr (fun T => s.heap.get? T = none) H' s'.heap e ∧ E (.ref C) (some e) H' := by
  obtain ⟨e, C, H', rfl, os, bare, un, hok, he, tr, q⟩ := c
  exact ⟨e, C, H', rfl, I.call' (ch := []) os un hok bare (fun b z => absurd z (by simp)), he, tr, q⟩
theorem Inv.back (I : Inv X pins σ H s) (hx : X.ex = []) {T : Addr} (n : s.heap.get? T = none) : X.s₀.heap.get? T = none := by
  cases y : X.s₀.heap.get? T with
  | none => rfl
  | some o =>
    obtain ⟨o', y1⟩ := I.base.there T o y (by rw [hx]; simp)
    rw [n] at y1; cases y1
end
section
variable {P : Program} {w : World} {K : PySem.W.Frag} {mg : Str → Option Value} {base : Heap} {N : List Str} {qual : Str} {scope : Scope} {f : Addr} {cd : Value} {A : Around} {outer : List Env} {s : Shared} {H : Hp} {E : XK}
noncomputable abbrev cxM (P : Program) (w : World) (K : PySem.W.Frag) (mg : Str → Option Value) (base : Heap) (N : List Str) (qual : Str) (scope : Scope) (f : Addr) (cd : Value) (A : Around) (outer : List Env) (s : Shared) (H : Hp) (E : XK) : Cx := cxOf (CXM P w) P w K mg base N qual scope f cd A outer s H E
theorem xe_new {pins : List (Addr × Obj)} {σ : St} {H' : Hp} {s' : Shared} {e C : Addr} (I : Inv (cxM P w K mg base N qual scope f cd A outer s H E) pins σ H' s') (he : H' e = some (XO C e)) (fl : Fresh s'.heap e ∨ Tr (fun T => s.heap.get? T = none) H' s'.heap e) (q : E (.ref C) (some e) H') :
    (cxM P w K mg base N qual scope f cd A outer s H E).xe (.ref e) s' := leave_cx I rfl rfl rfl he fl q
end
section
variable {X : Cx} {x : Str} {np cpos pos : Pos} {a : Expr} {as : List Expr} {t : TA} {C : Addr} {W : St → Addr → Hp → Prop}
theorem ps_raise (hc : PySem.W.excIn X.K C [.type "ValueError", .type "Exception", .type "BaseException", .type "object"] "ValueError.__new__" = true) (hg : Gl X x) (hm : X.mg x = some (.ref C)) (hcm : X.calm = true) (ha : PA X (a :: as) t)
    (hx : ∀ pins σ H s e, Inv X pins σ H s → H e = some (XO C e) → Fresh s.heap e → W σ e H → X.xe (.ref e) s) (hdb : (x == ("__debug__" : Str)) = false := by decide)
    (he : starEach (a :: as) X.env = (false, eval a X.env) :: starEach as X.env := by rfl) (hpl : (backTo cpos (starEach as X.env)).any (·.1) = false := by rfl) :
    PS X (.Raise (some (.Call (.Name x np) (a :: as) [] cpos)) none pos) (fun _ σ H => t σ H fun vs H1 => vs.length ≤ sizeLine ∧ ∀ e, H1 e = none → W σ e (upd H1 e (XO C e))) := by
  intro pins s σ H D I h
  obtain ⟨bm, N, nm, q, bs, hdct, sn, sub, ab, col, dd, k0, k1, k2, k3, k5, mN, hC, hN, hni, T⟩ := exc_obj I.ok.mod.kin hc
  have hA := ha cpos pins s σ H _ I h
  refine wpAny_Raise_call_subU (C := C) (nm := nm) (q := q) (N := N) (bs := bs) (bm := bm) (hdct := hdct) (sn := sn) (sub := sub) (ab := ab) (col := col) (dd := dd) (k0 := k0) (k1 := k1) (k2 := k2) (k3 := k3) (k5 := k5)
    PySem.F.excBase_ValueError PySem.F.excBase_ValueError.hasB PySem.F.excBase_ValueError (mN := mN) (T.hasType PySem.F.excBase_ValueError.hasBase) (I.ok.hd hcm) (by rw [he]; show (false || (backTo cpos (starEach as X.env)).any (·.1)) = false; rw [hpl]; rfl) hni (ld_glob I hg hm ⟨rfl, ?_⟩ hdb)
  rw [he] at hA ⊢
  refine Calls.evalArgs_plain (thn hA fun us s2 ⟨vs, H2, I2, r, hz, k⟩ => ⟨rfl, by rw [← r.length]; exact hz, I2.bk _ _ hC, hN.keeps I2.bk, T.keeps I2.bk, fun h' e hm => ?_⟩)
  obtain ⟨tt, h1, h2, h3⟩ := hm.there
  exact hx pins σ _ { s2 with heap := h' } e (I2.born (t' := s2.toks) (o := XO C e) hm.keeps hm.new (xo_ok h1 rfl rfl)) upd_same ⟨_, _, _, h1, rfl, rfl, rfl⟩ (k e (I2.hok.noth hm.new))
end
end L2
-- MOD Exc3
/-! try .. except C as e. -/
namespace L2
open PySem PySem.Spec PyProof.Rows
noncomputable abbrev TW := St → Addr → Addr → Hp → Prop
noncomputable def Cx.tri (X : Cx) (pins : List (Addr × Obj)) (W : TW) : Cx := { X with
  pn := X.pn ++ pins
  xe := fun u s' => ∃ e C σ' H', u = .ref e ∧ Inv X pins σ' H' s' ∧ H' e = some (XO C e) ∧ Tr (fun T => X.s₀.heap.get? T = none ∧ ∀ p ∈ X.pn ++ pins, p.1 ≠ T) H' s'.heap e ∧ W σ' e C H' }
noncomputable def Cx.hnd (X : Cx) (e : Addr) : Cx := { X with
  A := X.A.mark (some (.ref e))
  calm := false
  xe := fun _ _ => False }
section
variable {X : Cx} {pins pins' : List (Addr × Obj)} {σ : St} {H : Hp} {s : Shared} {W : TW} {e : Addr}
theorem Cx.Ok.tri (ok : X.Ok) : (X.tri pins W).Ok := ⟨ok.mod, ok.kind, ok.glob, ok.blt, ok.above, ok.inj, ok.has, ok.cab, ok.hd, ok.frames, ok.stk, ok.exf, ok.bs, ok.bsz, ok.noex, ok.exfs, ok.funs, ok.frf⟩
theorem Cx.Ok.untri (ok : (X.tri pins W).Ok) : X.Ok := ⟨ok.mod, ok.kind, ok.glob, ok.blt, ok.above, ok.inj, ok.has, ok.cab, ok.hd, ok.frames, ok.stk, ok.exf, ok.bs, ok.bsz, ok.noex, ok.exfs, ok.funs, ok.frf⟩
theorem Cx.Ok.hnd (ok : X.Ok) : (X.hnd e).Ok := ⟨ok.mod, ok.kind, ok.glob, ok.blt, ok.above, ok.inj, ok.has, ok.cab, (fun z => Bool.noConfusion (show false = true from z)), ok.frames, ok.stk, ok.exf, ok.bs, ok.bsz, ok.noex, ok.exfs, ok.funs, ok.frf⟩
theorem Inv.tri (I : Inv X pins σ H s) : Inv (X.tri pins W) [] σ H s := ⟨I.ok.tri, I.os, I.bare, I.base, I.loc, I.cell, I.free, I.freeC, fun p hp => I.pin p (by simpa [Cx.tri] using hp), I.hok, I.len⟩
theorem Inv.untri (I : Inv (X.tri pins W) pins' σ H s) : Inv X pins σ H s := ⟨I.ok.untri, I.os, I.bare, I.base, I.loc, I.cell, I.free, I.freeC, fun p hp => I.pin p (List.mem_append_left _ hp), I.hok, I.len⟩
theorem Inv.hnd (I : Inv X pins σ H s) : Inv (X.hnd e) pins σ H s := ⟨I.ok.hnd, I.os, I.bare, I.base, I.loc, I.cell, I.free, I.freeC, I.pin, I.hok, I.len⟩
theorem Inv.unhnd (ok : X.Ok) (I : Inv (X.hnd e) pins σ H s) : Inv X pins σ H s := ⟨ok, I.os, I.bare, I.base, I.loc, I.cell, I.free, I.freeC, I.pin, I.hok, I.len⟩
theorem SP.untri {D : Ends} {f : Flow} {s' : Shared} (h : SP (X.tri pins W) pins' D f s') : SP X pins D f s' := by
  cases f with
  | next => obtain ⟨σ', H', I, q⟩ := h; exact ⟨σ', H', I.untri, q⟩
  | brk => obtain ⟨σ', H', I, q⟩ := h; exact ⟨σ', H', I.untri, q⟩
  | cont => obtain ⟨σ', H', I, q⟩ := h; exact ⟨σ', H', I.untri, q⟩
  | ret u => obtain ⟨v, σ', H', I, r, q⟩ := h; exact ⟨v, σ', H', I.untri, r, q⟩
theorem pass_try (hx : X.ex = []) : Passes (CXM X.prog X.w) (X.tri pins W) (fun σ cls eo H' => ∃ e C, cls = .ref C ∧ eo = some e ∧ W σ e C H') := fun pins' σ H1 s1 u s2 I c => by
  obtain ⟨e, C, H', rfl, I', he, tr, e', C', h1, h2, q⟩ := I.cx c
  cases h1; cases h2
  exact ⟨e, C, σ, H', rfl, I'.untri, he, tr.imp fun T n => ⟨I.back hx n, fun p hp z => by
    have := (I.pin p (List.mem_append_left _ hp)).1
    rw [z, n] at this
    cases this⟩, q⟩
theorem Inv.gone {i : Nat} {n : Str} {v : Option Value} {m : Str → Option Value} {h' : Heap} {t' : Nat} (I : Inv X pins σ H s) (hN : X.N.Nodup) (hi : X.N[i]? = some n)
    (hl : ∀ (j : Nat) (x : Str) (v : V), X.N[j]? = some x → σ[j]? = some (some v) → Vis X.env.scope x → ∃ u, RelV v u ∧ Look X.env s.heap m x u) (hn : h'.Ns X.env.locals (fun x => if x = n then v else m x)) (hs : Heap.SameBut X.env.locals s.heap h') :
    Inv X pins (σ.set i none) H { s with heap := h', toks := t' } := by
  obtain ⟨oL, _, _, hoL, _⟩ := id I.loc.choose_spec.1
  have cne := I.cne
  refine ⟨I.ok, I.os, I.bare, ⟨fun b o e n hb hx => ?_, fun b o e n hb hx => ?_, I.base.free, fun b o e hx => ?_, I.base.tups, I.base.frzs, I.base.tbls⟩, ⟨_, hn, fun j y v' e1 e2 e3 => ?_⟩, fun y c e => ?_, I.free, I.freeC, fun p hp => ?_, fun b ob e => ?_, by simpa using I.len⟩
  · exact (hs.2 b (Nat.ne_of_lt (Nat.lt_of_lt_of_le (Heap.lt_size e) I.ok.above))).trans (I.base.keep b o e n hb hx)
  · obtain ⟨sl, e1⟩ := I.base.slot b o e n hb hx
    exact ⟨sl, (hs.2 b (Nat.ne_of_lt (Nat.lt_of_lt_of_le (Heap.lt_size e) I.ok.above))).trans e1⟩
  · obtain ⟨o', e1⟩ := I.base.there b o e hx
    exact ⟨o', (hs.2 b (Nat.ne_of_lt (Nat.lt_of_lt_of_le (Heap.lt_size e) I.ok.above))).trans e1⟩
  · have hj : j ≠ i := by
      rintro rfl
      rw [List.getElem?_set] at e2
      simp only [if_true] at e2
      split at e2 <;> cases e2
    rw [List.getElem?_set_ne (Ne.symm hj)] at e2
    obtain ⟨u', r', q⟩ := hl j y v' e1 e2 e3
    refine ⟨u', r', ?_⟩
    rcases q with ⟨k, e⟩ | ⟨k, c, e, z⟩
    · refine .inl ⟨k, ?_⟩
      have : y ≠ n := fun e => hj (nodup_ix hN e1 (e ▸ hi))
      simp [this, e]
    · exact .inr ⟨k, c, e, z.sameBut hs (cne y c e)⟩
  · obtain ⟨w', z⟩ := I.cell y c e
    exact ⟨w', z.sameBut hs (cne y c e)⟩
  · obtain ⟨e, n, ne, nf, d⟩ := I.pin p hp
    exact ⟨(hs.2 p.1 ne).trans e, n, ne, nf, d⟩
  · refine (I.hok b ob e).stay (fun c w' hc q => (hs.2 c ?_).trans q) (fun _ q => q) fun _ _ q => q
    rintro rfl
    rcases hc with hc | hc
    · rw [← hc, I.free] at e; cases e
    · rw [I.free] at hc; cases hc
end
noncomputable def Ends.but (D : Ends) (i : Nat) : Ends := { nx := fun σ H => D.nx (σ.set i none) H, rt := D.rt, bk := fun σ H => D.bk (σ.set i none) H, ct := fun σ H => D.ct (σ.set i none) H }
section
variable {X : Cx} {x n : Str} {np hpos pos : Pos} {body suite : List Stmt} {b₀ : Stmt} {i : Nat} {B : Addr} {tb : TW → TS} {th : Addr → TS}
theorem ps_try (hx : X.ex = []) (hs : X.stack = X.env :: X.outer) (hf : X.env.frame = some X.env.locals) (hN : X.N.Nodup) (hi : X.N[i]? = some n) (hl : X.env.scope.names.lookup n = some .local) (hg : Gl X x) (hm : X.mg x = some (.ref B))
    (hb : ∀ pins W, PSs (X.tri pins W) body (tb W)) (hh : ∀ e, PSs (X.hnd e) (b₀ :: suite) (th e)) (hdb : (x == ("__debug__" : Str)) = false := by decide) :
    PS X (.Try body [.ExceptHandler (some (.Name x np)) (some n) (b₀ :: suite) hpos] [] [] pos) (fun D σ H => ∃ W : TW, tb W D σ H ∧ ∀ σ' e C H', H' e = some (XO C e) → W σ' e C H' → PySem.W.exmOne X.K (.ref C) (.ref B) = some true ∧ th e (D.but i) (σ'.set i (some (.ref e))) H') := by
  intro pins s σ H D I ⟨W, hbW, hW⟩
  refine wpAny_Try_except (wpAny_mono (hb pins W [] s σ H D I.tri hbW) (fun f s1 h1 => ?_) (fun u s1 h1 => ?_))
  · have h1 := h1.untri
    cases f with
    | next =>
      obtain ⟨σ', H', I', q⟩ := h1
      exact pss_nil pins s1 σ' H' D I' q
    | brk => exact h1
    | cont => exact h1
    | ret u => exact h1
  · obtain ⟨e, C, σ', H', rfl, I', he, tr, w⟩ := h1
    obtain ⟨oe, vs, a0, T0, oT, ts, h1, h2, h3, h4, ⟨g1, g2⟩, nT, h5, h6, h7⟩ := tr
    obtain ⟨hK, hT⟩ := hW σ' e C H' he w
    have hfr : X.A.frames = some (X.env :: X.outer) := by rw [← hs]; exact I.ok.frames
    have hl' : s1.heap.FunFrames X.base (X.env :: X.outer) := by rw [← hs]; exact I'.stack
    obtain ⟨ox, vx, hox, hcx, hdx⟩ := xo_of I'.hok he
    rw [h1] at hox; cases hox
    have hne : T0 ≠ e := fun z => by rw [z, he] at nT; cases nT
    have F := fly_of hl' h1 h2 h3 h4 hne h5 h6 h7
    rw [hcx] at F
    have mv : ∀ {h' : Heap} {t' : Nat}, Heap.FlyingW (bas s1.heap (X.env :: X.outer) e T0) (X.env :: X.outer) e (.ref C) a0 h' → s1.heap.UpToSlots h' → Inv X pins σ' H' { s1 with heap := h', toks := t' } := fun {h'} {t'} F up => by
      have m := L2.moved (fl := .none) hl' F.1 F.2.2.1 F.2.2.2 up
      rw [← hs] at m
      exact I'.moved he nT g1 g2 h5 h6 m
    refine wpAny_looks_onW hfr hf F fun h₄ H4 up4 => ?_
    refine wpAny_landsW H4 fun h₅ F5 up5 => ?_
    have I5 := mv (t' := s1.toks) F5 (up4.trans up5)
    have I5h := I5.hnd (e := e)
    refine wpAny_handleBy_cons (codeAny_handlers_test (ld_glob I5h hg hm ?_ hdb)) (by intro q; cases q)
    obtain ⟨o5, ho5, hc5⟩ := F5.there
    have LT : PySem.W.Looks (model X.prog X.w) h₅ (typeOf (.ref e)) (.ref C) := by
      rw [← hc5]
      exact (PySem.W.Looks.ld ho5).andThen .now
    refine PySem.W.exm_one I5.kIn LT hK _ _ _ _ (fun _ _ q => q) ?_
    refine codeAny_handlers_suite_as ?_
    refine lands_againW F5 fun h₆ F6 up6 => ?_
    have I6 := (mv (t' := s1.toks) F6 ((up4.trans up5).trans up6)).hnd (e := e)
    refine store_ok (X := X.hnd e) (i := i) I6 hN hi (.inl hl) (v := .ref e) rfl (fun s7 I7 => ?_) (.inr hl)
    refine wpAny_mono (hh e pins s7 _ H' (D.but i) I7 hT) (fun f s8 h8 => ?_) (fun _ _ z => False.elim z)
    have done : ∀ {σ8 : St} {H8 : Hp} {R : Unit → Shared → Prop} {E : Value → Shared → Prop}, Inv (X.hnd e) pins σ8 H8 s8 → (∀ s9, Inv X pins (σ8.set i none) H8 s9 → R () s9) → wpAny (model X.prog X.w) X.A (do bindName X.env n .none; unbindBehindTheSuite X.env n hpos) R E s8 := fun {σ8 H8 R E} J r => by
      have J := J.unhnd I.ok
      obtain ⟨m, hn, hloc⟩ := id J.loc
      exact wpAny_nameGoes_keeps hl hn (by rw [I.ok.kind]; rfl) fun h9 v hn9 hs9 => r _ (J.gone hN hi hloc hn9 hs9)
    cases f with
    | next => obtain ⟨σ8, H8, J, q⟩ := h8; exact done J fun s9 J9 => ⟨_, _, J9, q⟩
    | brk => obtain ⟨σ8, H8, J, q⟩ := h8; exact done J fun s9 J9 => ⟨_, _, J9, q⟩
    | cont => obtain ⟨σ8, H8, J, q⟩ := h8; exact done J fun s9 J9 => ⟨_, _, J9, q⟩
    | ret u => obtain ⟨v, σ8, H8, J, r, q⟩ := h8; exact done J fun s9 J9 => ⟨v, _, _, J9, r, q⟩
end
end L2
-- MOD Exc4
namespace L2
open PySem PySem.Spec PyProof.Rows PySem.W
section
variable {prog : Program} {w : World} {A : Around} {E : Value → Shared → Prop} {h : Heap} {g : Array GenState} {d : Drawn} {t : Nat} {os : OsState} {a : Addr} {o : Obj}
  {nm q : Str} {C N : Addr} {bs bm : List Value} {hdct : Bool} {sn : List Str} {sub : List Value} {ab : Bool} {col : Option Bool} {dd : Option Addr} {k0 k1 k2 k3 k5 : Option Value} {newId : String}
theorem check_ga {M : Model} {nameV : Value} {Q : Unit → Shared → Prop} (hC : h.get? C = some (excClassObj nm q C N bs bm hdct sn sub ab col dd k0 k1 k2 k3 k5 newId)) (hcB : (Value.ref C :: bm).contains (.type "BaseException") = true)
    (hx : h.get? a = some o) (hc : o.cls = .ref C) (hq : Q () ⟨h, g, d, t, os⟩) : wpAny M A (checkBuiltinCall "BaseException.__getattribute__" ⟨[.ref a, nameV], []⟩) Q E ⟨h, g, d, t, os⟩ := by
  have hk : builtinKind "BaseException.__getattribute__" = some .slot := by decide +kernel
  have hsplit : splitId "BaseException.__getattribute__" = some ("BaseException", "__getattribute__") := by decide +kernel
  have ha := PySem.F.args_bexc_ga (.ref a) nameV
  simp only [checkBuiltinCall, hk, hsplit]
  refine wpAny_bind ?_
  · unfold isInstance
    repeat (first | (with_reducible refine wpAny_loadPart_at hx ?_; rw [hc]) | (with_reducible refine wpAny_isSubtype_exc hC ?_; rw [hcB]) | wp_step)
    exact hq
end
section
variable {prog : Program} {w : World} {A : Around} {E : Value → Shared → Prop} {s : Shared} {K : Frag} {x C D : Addr} {ox : Obj}
open Builtin Builtin.ObjectAttr Builtin.Getset_descriptor in
theorem xc_get {R : Result → Shared → Prop} {tp : Value} (X : K.In s.heap) (L0 : Looks (model prog w) s.heap (typeOf (.ref x)) (.ref D)) (hm : mroIn K D (.type "object") = some true) (h : R (.ok (.ret (.ref D))) s) :
    codeAny (model prog w) A (.call (.builtin "getset_descriptor.__get__") ⟨[.builtin "object.__class__", .ref x, tp], []⟩) R s := by
  obtain ⟨hh, g, dr, t, os⟩ := s
  have L1 := looks_mroIn (M := model prog w) X hm; refine codeAny_call_builtin KF.slot_gs.plain KF.entry_gs (KF.slot_gs.check _ _ _ _ _ _ _ _ KF.type_class (KF.args_gs _ _ _) ?_)
  unfold Builtin.«getset_descriptor.__get__» descrGet; rw [dga_obj]; refine wpAny_bind (wpAny_pure ?_)
  unfold descrGetter descrCheckInstance descrNameAndClass isInstance; simp only [KF.owner_class]; repeat lk
  refine ⟨Code.quiet_builtin _ (by decide +kernel), codeAny_builtin KF.entry_class ?_⟩; unfold Builtin.«object.__class__» shownTypeOf
  repeat lk
  exact h
theorem xc_class {Q : Option Value → Shared → Prop} (X : K.In s.heap) (hx : s.heap.get? x = some ox) (hc : ox.cls = .ref D) (hga : findIn K (.ref D) "__getattribute__" = some (some (.builtin "BaseException.__getattribute__"))) (hgt : findIn K (.ref D) "__getattr__" = some none)
    (hcf : findIn K (.ref D) "__class__" = some (some (.builtin "object.__class__"))) (hm : mroIn K D (.type "object") = some true) (hexc : excIn K D [.type "ValueError", .type "Exception", .type "BaseException", .type "object"] "ValueError.__new__" = true)
    (h : Q (some (.ref D)) { s with toks := s.toks + 1 }) : wpAny (model prog w) A (getAttr? (.ref x) "__class__") Q E s := by
  obtain ⟨hh, g, d, t, os⟩ := s
  have L0 : Looks (model prog w) hh (typeOf (.ref x)) (.ref D) := by rw [← hc]; exact (Looks.ld hx).andThen .now
  have L1 := looks_findIn (M := model prog w) X hga
  have L2 := looks_findIn (M := model prog w) X hgt
  have hx2 : (Value.builtin "BaseException.__getattribute__" == Value.builtin "object.__getattribute__") = false := by decide +kernel
  have hx1 : (onTheHeap (Value.ref D) && Value.builtin "BaseException.__getattribute__" == Value.builtin "object.__getattribute__") = false := by rw [hx2]; rfl
  have f3 := PySem.F.attr_ValueError.ga.bind (.ref x)
  unfold getAttr? getAttrBy? getAttrBy
  refine wpAny_bind (wpAny_mkText (wpAny_bind (wpAny_attempt (wpAny_holding (wpAny_bind (L0.at (wpAny_bind (L1.at ?_))))))))
  simp only [hx1, hx2]
  rw [if_neg (by simp)]
  unfold getAttrByItsOwn
  repeat (any_goals (first | assumption | with_reducible refine L2.at ?_ | with_reducible refine L0.at ?_ | with_reducible refine L1.at ?_ | wp_step))
  obtain ⟨bm, N, nm, q, bs, hdct, sn, sub, ab, col, dd, k0, k1, k2, k3, k5, mN, hC, hN, hni, T⟩ := exc_obj X hexc
  refine codeAny_call_builtin PySem.F.attr_ValueError.ga.plain PySem.F.entry_bexc_ga (check_ga hC (by rw [List.contains_cons, T.hasType PySem.F.excBase_ValueError.hasBase]; rfl) hx hc ?_)
  have L3 := looks_findIn (M := model prog w) X hcf
  have f5 : typeOf (.builtin "object.__class__") = pure (.type "getset_descriptor") := by kernel_rfl
  have f6 := PySem.F.slot_gs_get.lookup
  have f7 := PySem.F.slot_gs_set.lookup
  repeat (any_goals (first | assumption | with_reducible refine L3.at ?_ | with_reducible refine L0.at ?_ | wp_step))
  refine xc_get X L0 hm ?_
  exact wpAny_pure (handed_on rfl (wpAny_pure h))
structure XCls (K : Frag) (C : Addr) : Prop where
  exc : excIn K C [.type "ValueError", .type "Exception", .type "BaseException", .type "object"] "ValueError.__new__" = true
  ga : findIn K (.ref C) "__getattribute__" = some (some (.builtin "BaseException.__getattribute__"))
  gt : findIn K (.ref C) "__getattr__" = some none
  cf : findIn K (.ref C) "__class__" = some (some (.builtin "object.__class__"))
  ob : mroIn K C (.type "object") = some true
theorem kitx_exc {e : Addr} (c : XCls K C) : KitX K (.ref e) (.ref C) (fun h => ∃ ox, h.get? e = some ox ∧ ox.cls = .ref C) where
  ty := fun _ _ _ ⟨_, hx, hc⟩ => by rw [← hc]; exact (Looks.ld hx).andThen .now
  it := fun _ _ X _ => by
    obtain ⟨bm, N, nm, q, bs, hdct, sn, sub, ab, col, dd, k0, k1, k2, k3, k5, mN, hC, _⟩ := exc_obj X c.exc
    intro A' Q' E' s' k q
    unfold isType loadHead
    exact wpAny_bind (wpAny_loadPart (k _ _ hC) (wpAny_pure q))
  ne := fun h tp dd its n sl X htp => by
    obtain ⟨bm, N, nm, q, bs, hdct, sn, sub, ab, col, dd, k0, k1, k2, k3, k5, mN, hC, _⟩ := exc_obj X c.exc
    refine Bool.eq_false_iff.mpr fun q => ?_
    have e : C = tp := Value.ref.inj (beq_iff_eq.mp q)
    subst e
    rw [hC] at htp
    exact nomatch congrArg Obj.data (Option.some.inj htp)
  ca := fun X ⟨_, hx, hc⟩ k => xc_class X hx hc c.ga c.gt c.cf c.ob c.exc k
end
section
variable {X : Cx}
theorem call_isinstX {K : Frag} (hK : X.K = K) : CallR X (.builtin "isinstance") (fun xs H Q => ∃ a C c cv b, xs = [.ref a, c] ∧ H a = some (XO C a) ∧ XCls K C ∧ absV cv = some c ∧ kitOne K (.ref C) cv = some b ∧ ((∀ t, cv ≠ .ref t) → ∃ T, cv = .type T) ∧ Q (.bl b) H) := by
  intro pins s σ H xs us Q I rv ⟨a, C, c, cv, b, ex, ha, hc, rc, hk, hT, q⟩
  subst ex hK
  obtain ⟨u1, u2, rfl, r1, r2⟩ := L2.v2 rv
  cases (show u1 = Value.ref a from r1)
  obtain ⟨o, vs, h1, h2, h3⟩ := xo_of I.hok ha
  have e2 : u2 = cv := by
    cases cv with
    | ref t => cases (Option.some.inj rc); exact r2
    | type T => cases (Option.some.inj rc); exact r2
    | _ => obtain ⟨T, z⟩ := hT (fun _ z => nomatch z); cases z
  subst e2
  exact kia_one (kitx_exc hc) I.kIn ⟨o, h1, h2⟩ hk (fun z => nomatch z) fun tk => ⟨.bl b, H, I.tok tk, rfl, q⟩
end
end L2
-- MOD ExW2
namespace L2
open PySem PySem.Spec PyProof.Rows
theorem Fun.okX {P : Program} {w : World} {K : PySem.W.Frag} {mg : Str → Option Value} {base : Heap} {CX : CXT} {x qual : Str} {st : Stmt} {f : Addr} {fd : FuncData} {N ps : List Str} {k : Nat} {sp : Sp} (F : Fun K x qual st f fd) (S : FnScope N ps (defScope st)) (len : ∀ vs H Q E, sp vs H Q E → vs.length = ps.length)
    (hbody : ∀ (cdv : Value) (A : Around) (outer : List Env) (s : Shared) (H : Hp) (vs : List V) (Q : VK) (E : XK), Room k (A.deeper (envOfC qual (defScope st) s.heap.objs.size f cdv)) → sp vs H Q E →
      ∃ t, PSs (cxOf CX P w K mg base N qual (defScope st) f cdv A outer s H E) (defBody st) t ∧ t { nx := fun _ H' => Q .non H', rt := Q } (start N vs) H) : FnOk P w K mg base CX (k + 1) f fd ps sp := by
  obtain ⟨oc, od, kV, doc, pm, an, cdv, ct, osl, rfl, lk, hcd⟩ := F.ex
  exact fn_of lk hcd S len fun A outer s H vs Q E hr hsp => hbody cdv A outer s H vs Q E hr hsp
theorem FnOk.or {P : Program} {w : World} {K : PySem.W.Frag} {mg : Str → Option Value} {base : Heap} {CX : CXT} {k : Nat} {f : Addr} {fd : FuncData} {ps : List Str} {sp sp' : Sp} (F : FnOk P w K mg base CX k f fd ps sp) (G : FnOk P w K mg base CX k f fd ps sp') : FnOk P w K mg base CX k f fd ps (fun vs H Q E => sp vs H Q E ∨ sp' vs H Q E) :=
  ⟨fun vs H Q E h => h.elim (F.len vs H Q E) (G.len vs H Q E), fun A outer s H args us vs Q E hr he hb hv h => h.elim (F.run A outer s H args us vs Q E hr he hb hv) (G.run A outer s H args us vs Q E hr he hb hv)⟩
namespace W
noncomputable def ps_raise := by have h := @L2.ps_raise; rw [ePS, ePA] at h; exact @h
noncomputable def ps_try := by have h := @L2.ps_try; rw [ePS, ePSs] at h; exact @h
noncomputable def Fun.okX := by have h := @L2.Fun.okX; rw [ePSs] at h; exact @h
end W
end L2
-- MOD Exh
/-! A statement whose comprehension has names of its own that are the def's too: those are forgotten. -/
namespace L2
open PySem PySem.Spec PyProof.Rows
section
variable {X : Cx} {pins : List (Addr × Obj)} {σ : St} {H : Hp} {s : Shared} {N' : List Str} {is : List Nat} {st : Stmt} {t : TS}
end
theorem FnOk.calm {P : Program} {w : World} {K : PySem.W.Frag} {mg : Str → Option Value} {base : Heap} {CX : CXT} {k : Nat} {f : Addr} {fd : FuncData} {ps : List Str} {sp : Sp} (hC : Calm CX) (F : FnOk P w K mg base CX k f fd ps sp) : FnOk P w K mg base CX0 k f fd ps (fun vs H Q E => sp vs H Q fun _ _ _ => False) :=
  ⟨fun vs H Q E h => F.len vs H Q _ h, fun A outer s H args us vs Q E hr he hb hv h => by
    have := F.run A outer s H args us vs Q (fun _ _ _ => False) hr he hb hv h
    refine codeAny_mono this fun r s' h' => ?_
    cases r with
    | ok c =>
      cases c with
      | ret u => exact h'
      | _ => exact h'
    | error e => exact hC _ _ _ _ _ h'⟩
namespace W
end W
end L2
-- MOD Tp1
/-! Sets of tuples: probes of a table end. -/
namespace L2
open PySem PySem.Spec PyProof.Rows
open SetTable (Probe Met bits runEnd leap turns advance probeStart)
section
variable {t : SetTable} {hashAt : Nat → Int} {h : Int}
noncomputable def adv (t : SetTable) : Nat → Probe → Probe
  | 0, p => p
  | n + 1, p => adv t n (t.advance p)
noncomputable def lp (mask : Nat) : Nat → Nat × Nat → Nat × Nat
  | 0, x => x
  | m + 1, x => lp mask m (leap mask x.1 x.2)
theorem runEnd_le (mask i : Nat) : i ≤ runEnd mask i ∧ runEnd mask i - i ≤ 9 := by
  unfold SetTable.runEnd
  split <;> omega
theorem run_end : ∀ (k : Nat) (p : Probe), p.more = k → ∃ p', adv t (k + 1) p = p' ∧ p'.i = (leap t.mask p.i p.perturb).1 ∧ p'.j = p'.i ∧ p'.perturb = (leap t.mask p.i p.perturb).2 ∧ p'.more ≤ 9
  | 0, p, e => by
    refine ⟨_, rfl, ?_⟩
    show (t.advance p).i = _ ∧ (t.advance p).j = (t.advance p).i ∧ (t.advance p).perturb = _ ∧ (t.advance p).more ≤ 9
    unfold SetTable.advance
    rw [if_neg (by omega)]
    exact ⟨rfl, rfl, rfl, (runEnd_le _ _).2⟩
  | k + 1, p, e => by
    have := run_end k (t.advance p) (by unfold SetTable.advance; rw [if_pos (by omega)]; show p.more - 1 = k; omega)
    have hi : (t.advance p).i = p.i ∧ (t.advance p).perturb = p.perturb := by unfold SetTable.advance; rw [if_pos (by omega)]; exact ⟨rfl, rfl⟩
    rw [hi.1, hi.2] at this
    exact this
theorem adv_add : ∀ (a b : Nat) (p : Probe), adv t (a + b) p = adv t b (adv t a p)
  | 0, b, p => by rw [Nat.zero_add]; rfl
  | a + 1, b, p => by
    rw [show a + 1 + b = (a + b) + 1 by omega]
    exact adv_add a b (t.advance p)
theorem leaps : ∀ (m : Nat) (p : Probe), p.more ≤ 9 → ∃ n, n ≤ 10 * (m + 1) ∧ (adv t n p).i = (lp t.mask (m + 1) (p.i, p.perturb)).1 ∧ (adv t n p).j = (adv t n p).i ∧ (adv t n p).perturb = (lp t.mask (m + 1) (p.i, p.perturb)).2 ∧ (adv t n p).more ≤ 9
  | 0, p, hm => by
    obtain ⟨p', e, h1, h2, h3, h4⟩ := run_end (t := t) p.more p rfl
    exact ⟨p.more + 1, by omega, by rw [e, h1]; rfl, by rw [e, h2], by rw [e, h3]; rfl, by rw [e]; exact h4⟩
  | m + 1, p, hm => by
    obtain ⟨p', e, h1, h2, h3, h4⟩ := run_end (t := t) p.more p rfl
    obtain ⟨n, hn, g1, g2, g3, g4⟩ := leaps m p' h4
    refine ⟨p.more + 1 + n, by omega, ?_⟩
    rw [adv_add, e]
    rw [h1, h3] at g1 g3
    exact ⟨g1, g2, g3, g4⟩
theorem lp_add (mask : Nat) : ∀ (a b : Nat) (x : Nat × Nat), lp mask (a + b) x = lp mask b (lp mask a x)
  | 0, b, x => by rw [Nat.zero_add]; rfl
  | a + 1, b, x => by
    rw [show a + 1 + b = (a + b) + 1 by omega]
    exact lp_add mask a b _
theorem lp_perturb (mask : Nat) : ∀ (m : Nat) (x : Nat × Nat), (lp mask m x).2 = x.2 / 32 ^ m
  | 0, x => by simp [lp]
  | m + 1, x => by
    show (lp mask m (leap mask x.1 x.2)).2 = _
    rw [lp_perturb mask m]
    show x.2 / 32 / 32 ^ m = _
    rw [Nat.div_div_eq_div_mul, Nat.pow_succ, Nat.mul_comm]
theorem lp_lt (mask : Nat) : ∀ (m : Nat) (x : Nat × Nat), x.1 < mask + 1 → (lp mask m x).1 < mask + 1
  | 0, x, hx => hx
  | m + 1, x, hx => lp_lt mask m _ (Nat.mod_lt _ (by omega))
theorem cycle7 : ∀ i < 8, ∀ j < 8, ∃ m, m < 8 ∧ (lp 7 m (i, 0)).1 = j := by decide +kernel
theorem cycle31 : ∀ i < 32, ∀ j < 32, ∃ m, m < 32 ∧ (lp 31 m (i, 0)).1 = j := by decide +kernel
theorem meets (hm : t.mask = 7 ∨ t.mask = 31) (p : Probe) (h9 : p.more ≤ 9) (hi : p.i ≤ t.mask) (hp : p.perturb < 2 ^ 64) (j : Nat) (hj : j ≤ t.mask) : ∃ n, n < 10 * turns t.mask ∧ (adv t n p).j = j := by
  have h13 : (lp t.mask 13 (p.i, p.perturb)).2 = 0 := by
    rw [lp_perturb]
    exact Nat.div_eq_of_lt (Nat.lt_of_lt_of_le hp (by decide))
  have hlt := lp_lt t.mask 13 (p.i, p.perturb) (by show p.i < t.mask + 1; omega)
  obtain ⟨m, ml, em⟩ : ∃ m, m < t.mask + 1 ∧ (lp t.mask m ((lp t.mask 13 (p.i, p.perturb)).1, 0)).1 = j := by
    rcases hm with hm | hm
    · rw [hm] at hlt hj ⊢
      exact cycle7 _ hlt _ (by omega)
    · rw [hm] at hlt hj ⊢
      exact cycle31 _ hlt _ (by omega)
  obtain ⟨n, hn, g1, g2, _, _⟩ := leaps (t := t) (12 + m) p h9
  refine ⟨n, by unfold SetTable.turns; omega, ?_⟩
  rw [g2, g1, show 12 + m + 1 = 13 + m by omega, lp_add, show lp t.mask 13 (p.i, p.perturb) = ((lp t.mask 13 (p.i, p.perturb)).1, 0) from Prod.ext rfl h13]
  exact em
end
end L2
-- MOD Tp2
namespace L2
open PySem PySem.Spec PyProof.Rows
open SetTable (Probe Met bits runEnd leap turns advance probeStart)
theorem sub_len' {α : Type} [DecidableEq α] : ∀ {a b : List α}, a.Nodup → (∀ x ∈ a, x ∈ b) → a.length ≤ b.length
  | [], _, _, _ => Nat.zero_le _
  | x :: a, b, nd, h => by
    have hx : x ∈ b := h x List.mem_cons_self
    rw [List.nodup_cons] at nd
    have := sub_len' (a := a) (b := b.erase x) nd.2 fun y hy => (List.mem_erase_of_ne (by rintro rfl; exact nd.1 hy)).mpr (h y (List.mem_cons_of_mem _ hy))
    rw [List.length_erase_of_mem hx] at this
    have := List.length_pos_of_mem hx
    rw [List.length_cons]
    omega
structure Tab8 (t : SetTable) (n : Nat) : Prop where
  mask : t.mask = 7 ∨ t.mask = 31
  dum : t.dummies = #[]
  size : t.place.size = n
  le : n ≤ 8
  few : n < t.mask
section
variable {t : SetTable} {n : Nat}
theorem slot_empty (hd : t.dummies = #[]) {j : Nat} (h : j ∉ t.place.toList) : t.slot j = .empty := by
  unfold SetTable.slot
  have h1 : (t.place[SetTable.below t.place j]? == some j) = false := by
    refine Bool.eq_false_iff.mpr fun z => h ?_
    have := beq_iff_eq.mp z
    exact List.mem_of_getElem? (i := SetTable.below t.place j) (by rw [Array.getElem?_toList]; exact this)
  have h2 : SetTable.has t.dummies j = false := by
    rw [hd]
    rfl
  simp only [h1, h2]
  rfl
theorem slot_nodum (hd : t.dummies = #[]) (j : Nat) : t.slot j ≠ .dummy := by
  unfold SetTable.slot
  rw [hd]
  by_cases c : (t.place[SetTable.below t.place j]? == some j) = true
  · simp only [c]
    exact fun z => nomatch z
  · simp only [Bool.eq_false_iff.mpr c, show SetTable.has #[] j = false from rfl]
    exact fun z => nomatch z
theorem free_place (T : Tab8 t n) : ∃ j, j ≤ t.mask ∧ t.slot j = .empty := by
  refine Classical.byContradiction fun no => ?_
  have : ∀ j ∈ List.range (t.mask + 1), j ∈ t.place.toList := fun j hj => Classical.byContradiction fun hn => no ⟨j, by have := List.mem_range.mp hj; omega, slot_empty T.dum hn⟩
  have := sub_len' List.nodup_range this
  rw [List.length_range, Array.length_toList, T.size] at this
  have := T.few
  omega
theorem probe_ends (T : Tab8 t n) {hashAt : Nat → Int} {h : Int} {p : Probe} (h9 : p.more ≤ 9) (hi : p.i ≤ t.mask) (hp : p.perturb < 2 ^ 64) : ∃ k, k < 10 * turns t.mask ∧ t.slot (adv t k p).j = .empty := by
  obtain ⟨j, hj, e⟩ := free_place T
  obtain ⟨k, hk, ek⟩ := meets T.mask p h9 hi hp j hj
  exact ⟨k, hk, by rw [ek]; exact e⟩
structure Pr (t : SetTable) (p : Probe) : Prop where
  more : p.more ≤ 9
  i : p.i ≤ t.mask
  per : p.perturb < 2 ^ 64
theorem Pr.start (h : Int) : Pr t (t.probeStart h) := by
  refine ⟨(runEnd_le _ _).2, ?_, ?_⟩
  · have := Nat.mod_lt (bits h) (show 0 < t.mask + 1 by omega)
    show bits h % (t.mask + 1) ≤ t.mask
    omega
  · show bits h < 2 ^ 64
    unfold SetTable.bits
    have h1 : h % (2 ^ 64 : Int) < 2 ^ 64 := Int.emod_lt_of_pos _ (by decide)
    have h2 : 0 ≤ h % (2 ^ 64 : Int) := Int.emod_nonneg _ (by decide)
    omega
theorem Pr.next {p : Probe} (x : Pr t p) : Pr t (t.advance p) := by
  unfold SetTable.advance
  split
  · exact ⟨by have := x.more; show p.more - 1 ≤ 9; omega, x.i, x.per⟩
  · refine ⟨(runEnd_le _ _).2, ?_, ?_⟩
    · have := Nat.mod_lt (p.i * 5 + 1 + p.perturb / 32) (show 0 < t.mask + 1 by omega)
      show (p.i * 5 + 1 + p.perturb / 32) % (t.mask + 1) ≤ t.mask
      omega
    · have := x.per
      show p.perturb / 32 < 2 ^ 64
      exact Nat.lt_of_le_of_lt (Nat.div_le_self _ _) this
theorem go_met (hd : t.dummies = #[]) {hashAt : Nat → Int} {h : Int} : ∀ (k fuel : Nat) (p : Probe), p.dummy = none → Pr t p → k < fuel → t.slot (adv t k p).j = .empty →
    (∃ j, SetTable.probe.go t hashAt h fuel p = some (.empty j none) ∧ t.slot j = .empty) ∨ ∃ j i next k', SetTable.probe.go t hashAt h fuel p = some (.candidate j i next) ∧ t.slot j = .live i ∧ hashAt i = h ∧ next.dummy = none ∧ Pr t next ∧ k' < k ∧ t.slot (adv t k' next).j = .empty
  | k, 0, _, _, _, h0, _ => by omega
  | k, fuel + 1, p, d0, pr, hk, e => by
    unfold SetTable.probe.go
    cases es : t.slot p.j with
    | empty => exact .inl ⟨p.j, by simp only [d0], es⟩
    | dummy =>
      exact absurd es (slot_nodum hd _)
    | live i =>
      simp only
      cases k with
      | zero => rw [show (adv t 0 p).j = p.j from rfl, es] at e; cases e
      | succ k =>
        have nd : (t.advance p).dummy = none := by unfold SetTable.advance; split <;> exact d0
        by_cases c : (hashAt i == h) = true
        · rw [if_pos c]
          exact .inr ⟨_, _, _, k, rfl, es, beq_iff_eq.mp c, nd, pr.next, by omega, e⟩
        · rw [if_neg c]
          rcases go_met hd k fuel _ nd pr.next (by omega) e with z | ⟨j, i', nx, k', z1, z2, z3, z4, z5, z6, z7⟩
          · exact .inl z
          · exact .inr ⟨j, i', nx, k', z1, z2, z3, z4, z5, by omega, z7⟩
end
end L2
-- MOD Tp3
namespace L2
open PySem PySem.Spec PyProof.Rows
open SetTable (Probe Met bits runEnd leap turns advance probeStart)
section
variable {mask : Nat} {owner : Array (Option Nat)}
theorem runEnd_mask {i : Nat} (h : i ≤ mask) : runEnd mask i ≤ mask := by
  unfold SetTable.runEnd
  split <;> omega
theorem free_some : ∀ (n fuel i perturb : Nat), n < fuel → i ≤ mask → (owner.getD (lp mask n (i, perturb)).1 (some 0)).isNone = true → ∃ j, SetTable.layClean.free mask owner fuel i perturb = some j ∧ j ≤ mask ∧ (owner.getD j (some 0)).isNone = true
  | n, 0, _, _, h0, _, _ => by omega
  | n, fuel + 1, i, perturb, hn, hi, e => by
    unfold SetTable.layClean.free
    cases f : (List.range (runEnd mask i + 1 - i)).find? (fun k => (owner.getD (i + k) (some 0)).isNone) with
    | some k =>
      refine ⟨i + k, rfl, ?_, by have := List.find?_some f; exact this⟩
      have h1 := List.mem_range.mp (List.mem_of_find?_eq_some f)
      have h2 := runEnd_mask hi
      omega
    | none =>
      have h1 := List.find?_eq_none.mp f
      cases n with
      | zero =>
        have h2 := (runEnd_le mask i).1
        exact absurd (show (owner.getD (i + 0) (some 0)).isNone = true from e) (h1 0 (List.mem_range.mpr (by omega)))
      | succ n => exact free_some n fuel _ _ (by omega) (by have := Nat.mod_lt (i * 5 + 1 + perturb / 32) (show 0 < mask + 1 by omega); show (i * 5 + 1 + perturb / 32) % (mask + 1) ≤ mask; omega) e
theorem fm_congr {α β : Type} {f g : α → Option β} : ∀ {l : List α}, (∀ x ∈ l, f x = g x) → l.filterMap f = l.filterMap g
  | [], _ => rfl
  | a :: r, h => by rw [List.filterMap_cons, List.filterMap_cons, h a List.mem_cons_self, fm_congr fun x hx => h x (List.mem_cons_of_mem _ hx)]
structure OW (mask : Nat) (owner : Array (Option Nat)) (k : Nat) : Prop where
  size : owner.size = mask + 1
  cnt : ((List.range (mask + 1)).filterMap fun j => owner.getD j none).length = k
  lt : ∀ j m, owner.getD j none = some m → m < k
theorem getD_none {j : Nat} (h : (owner.getD j (some 0)).isNone = true) : owner.getD j none = none ∧ j < owner.size := by
  unfold Array.getD at h ⊢
  split at h
  · rename_i hl
    rw [dif_pos hl]
    exact ⟨Option.isNone_iff_eq_none.mp h, hl⟩
  · cases h
theorem OW.put {k j : Nat} (x : OW mask owner k) (h : (owner.getD j (some 0)).isNone = true) : OW mask (owner.setIfInBounds j (some k)) (k + 1) := by
  obtain ⟨e, hl⟩ := getD_none h
  have gs : ∀ i, (owner.setIfInBounds j (some k)).getD i none = if i = j then some k else owner.getD i none := fun i => by
    rw [Array.getD_eq_getD_getElem?, Array.getD_eq_getD_getElem?, Array.getElem?_setIfInBounds]
    by_cases c : j = i
    · subst c; simp [hl]
    · simp [c, Ne.symm c]
  refine ⟨by rw [Array.size_setIfInBounds]; exact x.size, ?_, fun i m => ?_⟩
  · have hj : j < mask + 1 := by rw [← x.size]; exact hl
    have sp : List.range (mask + 1) = List.range j ++ (j :: (List.range (mask - j)).map (fun i => j + 1 + i)) := by
      rw [show mask + 1 = j + (mask - j + 1) by omega, List.range_add, List.range_succ_eq_map, List.map_cons, List.map_map]
      congr 1
      rw [Nat.add_zero]
      congr 1
      refine List.map_congr_left fun i _ => ?_
      show j + (i + 1) = j + 1 + i
      omega
    have c0 := x.cnt
    rw [sp, List.filterMap_append, List.filterMap_cons, List.length_append] at c0 ⊢
    rw [e] at c0
    rw [gs j, if_pos rfl]
    have e1 : (List.range j).filterMap (fun i => (owner.setIfInBounds j (some k)).getD i none) = (List.range j).filterMap (fun i => owner.getD i none) := fm_congr fun i hi => by
      rw [gs i, if_neg (by have := List.mem_range.mp hi; omega)]
    have e2 : ((List.range (mask - j)).map (fun i => j + 1 + i)).filterMap (fun i => (owner.setIfInBounds j (some k)).getD i none) = ((List.range (mask - j)).map (fun i => j + 1 + i)).filterMap (fun i => owner.getD i none) := fm_congr fun i hi => by
      obtain ⟨y, _, rfl⟩ := List.mem_map.mp hi
      rw [gs _, if_neg (by omega)]
    simp only [e1, e2, List.length_cons]
    simp only at c0
    omega
  · rw [gs i]
    split
    · intro z; cases z; omega
    · intro z; have := x.lt i m z; omega
theorem OW.free {k : Nat} (x : OW mask owner k) (h : k ≤ mask) : ∃ j, j ≤ mask ∧ (owner.getD j (some 0)).isNone = true := by
  refine Classical.byContradiction fun no => ?_
  have all : ∀ j ∈ List.range (mask + 1), ∃ m, owner.getD j none = some m := fun j hj => by
    have hj := List.mem_range.mp hj
    cases c : owner.getD j none with
    | some m => exact ⟨m, rfl⟩
    | none =>
      refine absurd ⟨j, by omega, ?_⟩ no
      have hl : j < owner.size := by rw [x.size]; exact hj
      unfold Array.getD at c ⊢
      rw [dif_pos hl] at c ⊢
      rw [c]
      rfl
  have : ∀ l : List Nat, (∀ j ∈ l, ∃ m, owner.getD j none = some m) → (l.filterMap fun j => owner.getD j none).length = l.length := fun l => by
    induction l with
    | nil => intro _; rfl
    | cons a r ih =>
      intro hl
      obtain ⟨m, e⟩ := hl a List.mem_cons_self
      rw [List.filterMap_cons, e]
      simp only [List.length_cons]
      rw [ih fun j hj => hl j (List.mem_cons_of_mem _ hj)]
  have c := this _ all
  rw [x.cnt, List.length_range] at c
  omega
end
theorem lay_ok : ∀ (hs : List Int) (owner : Array (Option Nat)) (k : Nat), OW 31 owner k → k + hs.length ≤ 31 →
    ∃ o', hs.foldl (fun (acc : Option (Array (Option Nat) × Nat)) h => do
      let (owner, k) ← acc
      let j ← SetTable.layClean.free 31 owner (turns 31) (bits h % (31 + 1)) (bits h)
      pure (owner.setIfInBounds j (some k), k + 1)) (some (owner, k)) = some (o', k + hs.length) ∧ OW 31 o' (k + hs.length)
  | [], owner, k, x, _ => ⟨owner, rfl, x⟩
  | h :: r, owner, k, x, hk => by
    rw [List.length_cons] at hk
    obtain ⟨j, hj, e⟩ := x.free (by omega)
    have hb : bits h < 2 ^ 64 := (Pr.start (t := default) h).per
    have h13 : (lp 31 13 (bits h % (31 + 1), bits h)).2 = 0 := by
      rw [lp_perturb]
      exact Nat.div_eq_of_lt (Nat.lt_of_lt_of_le hb (by decide))
    have hlt := lp_lt 31 13 (bits h % (31 + 1), bits h) (Nat.mod_lt _ (by decide))
    obtain ⟨m, ml, em⟩ := cycle31 _ hlt j (by omega)
    have el : (lp 31 (13 + m) (bits h % (31 + 1), bits h)).1 = j := by
      rw [lp_add, show lp 31 13 (bits h % (31 + 1), bits h) = ((lp 31 13 (bits h % (31 + 1), bits h)).1, 0) from Prod.ext rfl h13]
      exact em
    obtain ⟨j', e1, _, e3⟩ := free_some (mask := 31) (owner := owner) (13 + m) (turns 31) (bits h % (31 + 1)) (bits h) (by unfold SetTable.turns; omega) (by have := Nat.mod_lt (bits h) (show 0 < 31 + 1 by decide); omega) (by rw [el]; exact e)
    obtain ⟨o', e4, x4⟩ := lay_ok r _ _ (x.put e3) (by omega)
    refine ⟨o', ?_, by rw [List.length_cons, show k + (r.length + 1) = k + 1 + r.length by omega]; exact x4⟩
    rw [List.foldl_cons]
    simp only [Option.bind_eq_bind, Option.bind_some, e1, Option.pure_def]
    rw [List.length_cons, show k + (r.length + 1) = k + 1 + r.length by omega]
    exact e4
end L2
-- MOD Tp4
namespace L2
open PySem PySem.Spec PyProof.Rows
section
variable {prog : Program} {w : World} {K : Type} [DecidableEq K] {knd : KeyKind prog w K} {A : Around} {E : Value → Shared → Prop} {s : Shared}
theorem ofA_byValue (n : Nat) {v : Value} (h : carriedByValue v = true) : ofAClassStatement n v = pure false := by
  cases v with
  | ref a => simp [carriedByValue] at h
  | _ => first | rfl | (unfold ofAClassStatement; rfl)
theorem ofA_tuple {ks : List K} {a : Addr} {Q : Bool → Shared → Prop} (hk : IsTupleKey knd s.heap ks a) (h : Q false s) : wpAny (model prog w) A (ofAClassStatement 8 (.ref a)) Q E s := by
  obtain ⟨o, items, n, ho, hc, hd, hi⟩ := hk
  unfold ofAClassStatement
  refine wpAny_bind ?_
  have L : PySem.W.Looks (model prog w) s.heap (typeOf (.ref a)) (.type "tuple") := by rw [← hc]; exact (PySem.W.Looks.ld ho).andThen .now
  refine L.at ?_
  refine wpAny_bind (wpAny_pure ?_)
  simp only [Bool.not_true, Bool.false_eq_true, if_false]
  refine wpAny_bind (wpAny_seqItems ho hd ?_)
  refine wpAny_bind ?_
  rw [← Array.forIn_toList]
  refine wpAny_forIn_list _ (fun rest r s' => r.1 = none ∧ s' = s ∧ ∀ v ∈ rest, carriedByValue v = true) _ ?_ ?_ _ _ ⟨rfl, rfl, hi.byValue⟩
  · rintro v rest r s' ⟨hr, rfl, hall⟩
    rw [ofA_byValue _ (hall v List.mem_cons_self)]
    refine wpAny_bind (wpAny_pure ?_)
    simp only [Bool.false_eq_true, if_false]
    exact wpAny_pure ⟨rfl, rfl, fun u hu' => hall u (List.mem_cons_of_mem _ hu')⟩
  · rintro ⟨r1, r2⟩ s' ⟨hr, rfl, _⟩
    simp only at hr
    subst hr
    exact wpAny_pure h
theorem seen_no {ks : List K} {a : Addr} {ys : List Value} {Q : Bool → Shared → Prop} (hk : IsTupleKey knd s.heap ks a) (hy : ∀ v ∈ ys, ∃ k b, v = .ref b ∧ IsTupleKey knd s.heap k b) (h : Q false s) : wpAny (model prog w) A (searchCouldBeSeen (.ref a) ys) Q E s := by
  unfold searchCouldBeSeen
  refine wpAny_bind ?_
  refine wpAny_forIn_list _ (fun rest r s' => r.1 = none ∧ s' = s ∧ ∀ v ∈ rest, ∃ k b, v = .ref b ∧ IsTupleKey knd s.heap k b) _ ?_ ?_ _ _ ⟨rfl, rfl, hy⟩
  · rintro v rest r s' ⟨hr, rfl, hall⟩
    obtain ⟨k, b, rfl, hb⟩ := hall v List.mem_cons_self
    have rest' : ∀ v ∈ rest, ∃ k b, v = .ref b ∧ IsTupleKey knd s'.heap k b := fun u hu' => hall u (List.mem_cons_of_mem _ hu')
    by_cases c : (a == b || (carriedByValue (.ref a) && carriedByValue (.ref b))) = true
    · simp only [c, if_true]
      exact wpAny_pure ⟨rfl, rfl, rest'⟩
    · simp only [c, if_false, Bool.false_eq_true]
      refine wpAny_bind (wpAny_eqIsQuiet_tuple hk ?_)
      simp only [Bool.not_true, Bool.false_eq_true, if_false]
      refine wpAny_bind (wpAny_eqIsQuiet_tuple hb ?_)
      simp only [Bool.not_true, Bool.false_eq_true, if_false]
      refine wpAny_bind (ofA_tuple hk ?_)
      simp only [Bool.false_eq_true, if_false]
      refine wpAny_bind (ofA_tuple hb ?_)
      simp only [Bool.false_eq_true, if_false]
      exact wpAny_pure ⟨rfl, rfl, rest'⟩
  · rintro ⟨r1, r2⟩ s' ⟨hr, rfl, _⟩
    simp only at hr
    subst hr
    exact wpAny_pure h
theorem hbv_byValue (n : Nat) {v : Value} (h : carriedByValue v = true) : ∃ b, hashByValue n v = pure b := by
  cases v with
  | ref a => simp [carriedByValue] at h
  | _ => exact ⟨_, by first | rfl | (unfold hashByValue; rfl)⟩
theorem hbv_tuple {ks : List K} {a : Addr} {Q : Bool → Shared → Prop} (hk : IsTupleKey knd s.heap ks a) (h : ∀ b, Q b s) : wpAny (model prog w) A (hashByValue 8 (.ref a)) Q E s := by
  have hT := hk.typeIs
  obtain ⟨o, items, n, ho, _, hd, hi⟩ := hk
  unfold hashByValue
  refine wpAny_bind (wpAny_specialOf hT PySem.F.slot_tuple_hash.lookup ?_)
  refine wpAny_bind (wpAny_seqItems ho hd ?_)
  refine wpAny_bind ?_
  show wpAny _ _ (forIn items _ _) _ _ s
  rw [← Array.forIn_toList]
  refine wpAny_forIn_list _ (fun rest r s' => s' = s ∧ ∀ v ∈ rest, carriedByValue v = true) _ ?_ ?_ _ _ ⟨rfl, hi.byValue⟩
  · rintro v rest r s' ⟨rfl, hall⟩
    obtain ⟨b, e⟩ := hbv_byValue 7 (hall v List.mem_cons_self)
    rw [e]
    refine wpAny_bind (wpAny_pure ?_)
    cases b with
    | true => exact wpAny_pure ⟨rfl, fun u hu' => hall u (List.mem_cons_of_mem _ hu')⟩
    | false => exact wpAny_pure (by first | exact wpAny_pure (h _) | simpa using h _)
  · rintro ⟨r1, r2⟩ s' ⟨rfl, _⟩
    cases r1 <;> exact wpAny_pure (h _)
end
end L2
-- MOD Tp5
namespace L2
open PySem PySem.Spec PyProof.Rows
open SetTable (Probe Met bits runEnd leap turns advance probeStart)
section
variable {prog : Program} {w : World} {K : Type} [DecidableEq K] {knd : KeyKind prog w K} {A : Around} {E : Value → Shared → Prop} {s : Shared}
theorem slot_live {t : SetTable} {j i : Nat} (h : t.slot j = .live i) : i < t.place.size := by
  unfold SetTable.slot at h
  by_cases c : (t.place[SetTable.below t.place j]? == some j) = true
  · simp only [c, if_true] at h
    have e : SetTable.below t.place j = i := by injection h
    have := beq_iff_eq.mp c
    rw [e] at this
    exact (Array.getElem?_eq_some_iff.mp this).1
  · simp only [Bool.eq_false_iff.mpr c, Bool.false_eq_true, if_false] at h
    by_cases c2 : SetTable.has t.dummies j = true
    · simp only [c2, if_true] at h
      cases h
    · simp only [Bool.eq_false_iff.mpr c2, Bool.false_eq_true, if_false] at h
      cases h
theorem probe_met {t : SetTable} (hd : t.dummies = #[]) {hashAt : Nat → Int} {h : Int} {d : Nat} {p : Probe} {m : Option Met} (e0 : t.probe hashAt h p = m) (dn : p.dummy = none) (pr : Pr t p) (hk : d < 10 * turns t.mask) (e : t.slot (adv t d p).j = .empty) :
    (∃ j, m = some (.empty j none) ∧ t.slot j = .empty) ∨ ∃ j i next k', m = some (.candidate j i next) ∧ t.slot j = .live i ∧ next.dummy = none ∧ Pr t next ∧ k' < d ∧ t.slot (adv t k' next).j = .empty := by
  rw [← e0]
  rcases go_met hd (hashAt := hashAt) (h := h) d (10 * turns t.mask) p dn pr hk e with ⟨j, e1, e2⟩ | ⟨j, i, nx, d', e1, e2, e3, e4, e5, e6, e7⟩
  · exact .inl ⟨j, e1, e2⟩
  · exact .inr ⟨j, i, nx, d', e1, e2, e4, e5, e6, e7⟩
theorem probe_no {t : SetTable} (hd : t.dummies = #[]) {hashAt : Nat → Int} {h : Int} {d : Nat} {p : Probe} (e0 : ∀ m, t.probe hashAt h p = some m → False) (dn : p.dummy = none) (pr : Pr t p) (hk : d < 10 * turns t.mask) (e : t.slot (adv t d p).j = .empty) : False := by
  rcases probe_met hd (hashAt := hashAt) (h := h) rfl dn pr hk e with ⟨j, em, _⟩ | ⟨j, i, nx, d', em, _⟩
  · exact e0 _ em
  · exact e0 _ em
theorem tab_fits {t : SetTable} {n : Nat} (T : Tab8 t n) : t.fits n = true := by
  unfold SetTable.fits SetTable.fill
  rw [T.dum, T.size]
  have := T.few
  simp
  omega
theorem search_free {a x : Addr} {o : Obj} {es : Array (Int × Value)} {ep : Nat} {t : SetTable} {k : List K} {h : Int} {Q : SetFound → Shared → Prop} (hu : A.units < cLine) (ho : s.heap.get? a = some o) (hd : o.data = .set es ep t) (T : Tab8 t es.size)
    (hx : IsTupleKey knd s.heap k x) (hel : ∀ e ∈ es.toList, ∃ k' b, e.2 = .ref b ∧ IsTupleKey knd s.heap k' b ∧ k' ≠ k) (hQ : ∀ j, t.slot j = .empty → Q (.free j false) s) :
    ∀ (d fuel : Nat) (p : Probe) (stand : Option Probe), stand.getD (t.probeStart h) = p → p.dummy = none → Pr t p → d < 10 * turns t.mask → d < fuel → t.slot (adv t d p).j = .empty → wpAny (model prog w) A (setSearchFrom a (.ref x) h true fuel stand) Q E s := by
  intro d
  induction d using Nat.strongRecOn with
  | _ d ih =>
    intro fuel p stand hs dn pr hd1 hd2 e
    cases fuel with
    | zero => omega
    | succ fuel =>
      have hf := tab_fits T
      unfold setSearchFrom
      refine wpAny_bind (wpAny_setState_of ho hd hf ?_)
      have hg : t.gaveWay = false := by
        unfold SetTable.gaveWay
        rcases T.mask with m | m <;> rw [m] <;> rfl
      simp only [hg, Bool.false_eq_true, if_false, hs]
      split
      · rename_i m heq
        rcases probe_met T.dum heq dn pr hd1 e with ⟨j, em, e2⟩ | ⟨j, i, nx, d', em, e2, e4, e5, e6, e7⟩
        · cases em
          exact wpAny_pure (hQ j e2)
        · cases em
          have il : i < es.size := by rw [← T.size]; exact slot_live e2
          have eg : es[i]? = some es[i] := Array.getElem?_eq_getElem il
          obtain ⟨k', b, eb, hb, hne⟩ := hel es[i] (Array.getElem_mem_toList il)
          generalize es[i] = ei at eg eb
          obtain ⟨eh, ey⟩ := ei
          cases (show ey = .ref b from eb)
          have sm : t.sameMemory t.moves t.mask = some true := by unfold SetTable.sameMemory; rw [if_pos (beq_self_eq_true _)]
          dsimp only
          split
          · refine wpAny_bind (seen_no hx (fun v hv => ?_) ?_)
            · obtain ⟨e0, m0, rfl⟩ := List.mem_map.mp hv
              rw [Array.toList_filter] at m0
              obtain ⟨k0, b0, eb0, hb0, _⟩ := hel e0 (List.mem_filter.mp m0).1
              exact ⟨k0, b0, eb0, hb0⟩
            simp only [Bool.false_eq_true, if_false]
            rw [eg]
            dsimp only
            refine wpAny_bind (wpAny_holding (wpAny_eqBool_tuple hu hb hx ?_))
            rw [decide_eq_false hne]
            refine wpAny_bind (wpAny_setState_of ho hd hf ?_)
            simp only [Bool.and_false, Bool.false_eq_true, if_false]
            rw [sm]
            dsimp only
            rw [if_pos rfl, e2]
            dsimp only
            rw [eg]
            dsimp only
            refine wpAny_bind (wpAny_isSame_ref_self ?_)
            refine wpAny_bind (wpAny_pure ?_)
            simp only [if_true]
            exact ih d' e6 fuel nx (some nx) rfl e4 e5 (by omega) (by omega) e7
          · rw [eg]
            dsimp only
            refine wpAny_bind (wpAny_holding (wpAny_eqBool_tuple hu hb hx ?_))
            rw [decide_eq_false hne]
            refine wpAny_bind (wpAny_setState_of ho hd hf ?_)
            simp only [Bool.and_false, Bool.false_eq_true, if_false]
            rw [sm]
            dsimp only
            rw [if_pos rfl, e2]
            dsimp only
            rw [eg]
            dsimp only
            refine wpAny_bind (wpAny_isSame_ref_self ?_)
            refine wpAny_bind (wpAny_pure ?_)
            simp only [if_true]
            exact ih d' e6 fuel nx (some nx) rfl e4 e5 (by omega) (by omega) e7
      · rename_i heq
        exact (probe_no T.dum heq dn pr hd1 e).elim
end
end L2
-- MOD Tp6
namespace L2
open PySem PySem.Spec PyProof.Rows
open SetTable (Probe Met bits runEnd leap turns advance probeStart)
theorem fm_pair {f : Nat → Option Nat} : ∀ l : List Nat, (l.filterMap fun j => (f j).map (j, ·)).length = (l.filterMap f).length
  | [] => rfl
  | a :: r => by
    rw [List.filterMap_cons, List.filterMap_cons]
    cases f a with
    | none => exact fm_pair r
    | some m => simp only [Option.map_some, List.length_cons]; rw [fm_pair r]
theorem ow_nil : OW 31 (Array.replicate (31 + 1) none) 0 := by
  have g : ∀ j, (Array.replicate (31 + 1) (none : Option Nat)).getD j none = none := fun j => by
    rw [Array.getD_eq_getD_getElem?, Array.getElem?_replicate]
    split <;> rfl
  refine ⟨by simp, ?_, fun j m h => by rw [g j] at h; cases h⟩
  rw [fm_congr (g := fun _ => none) fun j _ => g j]
  decide
theorem relaid_ok {t : SetTable} {hs : Array Int} (h8 : hs.size ≤ 8) : ∃ t' order, t.relaid hs 20 = some (t', order) ∧ t'.mask = 31 ∧ t'.dummies = #[] ∧ t'.place.size = hs.size ∧ order.size = hs.size ∧ ∀ m ∈ order.toList, m < hs.size := by
  obtain ⟨o', e, x⟩ := lay_ok hs.toList _ 0 ow_nil (by rw [Array.length_toList]; omega)
  rw [Nat.zero_add, Array.length_toList] at e x
  have lc : SetTable.layClean 31 hs = some o' := by
    unfold SetTable.layClean
    rw [← Array.foldl_toList]
    rw [e]
    rfl
  have s20 : SetTable.sizeAbove 20 - 1 = 31 := by decide
  unfold SetTable.relaid SetTable.laid
  rw [s20, lc]
  refine ⟨_, _, rfl, rfl, rfl, ?_, ?_, fun m hm => ?_⟩
  · simp only [List.size_toArray, List.length_map]
    rw [fm_pair (f := fun j => o'.getD j none), x.cnt]
  · simp only [List.size_toArray, List.length_map]
    rw [fm_pair (f := fun j => o'.getD j none), x.cnt]
  · simp only at hm
    obtain ⟨y, hy, rfl⟩ := List.mem_map.mp hm
    obtain ⟨j, _, ej⟩ := List.mem_filterMap.mp hy
    cases c : o'.getD j none with
    | none => rw [c] at ej; cases ej
    | some m' =>
      rw [c] at ej
      cases ej
      exact x.lt j _ c
section
variable {α : Type}
theorem insertAt_size (xs : Array α) (p : Nat) (x : α) : (SetTable.insertAt xs p x).size = xs.size + 1 := by
  unfold SetTable.insertAt
  simp only [Array.size_append, Array.size_push, Array.size_extract]
  omega
theorem insertAt_mem {xs : Array α} {p : Nat} {x y : α} (h : y ∈ (SetTable.insertAt xs p x).toList) : y ∈ xs.toList ∨ y = x := by
  unfold SetTable.insertAt at h
  rw [Array.toList_append, Array.toList_push, List.append_assoc] at h
  rcases List.mem_append.mp h with h | h
  · refine .inl ?_
    rw [Array.toList_extract, List.extract_eq_take_drop] at h
    exact List.mem_of_mem_drop (List.mem_of_mem_take h)
  · rcases List.mem_append.mp h with h | h
    · exact .inr (List.mem_singleton.mp h)
    · refine .inl ?_
      rw [Array.toList_extract, List.extract_eq_take_drop] at h
      exact List.mem_of_mem_drop (List.mem_of_mem_take h)
theorem pick_size {es : Array α} {order : List Nat} (h : ∀ m ∈ order, m < es.size) : (order.filterMap (es[·]?)).length = order.length := by
  induction order with
  | nil => rfl
  | cons m r ih =>
    rw [List.filterMap_cons, Array.getElem?_eq_getElem (h m List.mem_cons_self)]
    simp only [List.length_cons]
    rw [ih fun m' h' => h m' (List.mem_cons_of_mem _ h')]
end
end L2
-- MOD Tp7
namespace L2
open PySem PySem.Spec PyProof.Rows
open SetTable (Probe Met bits runEnd leap turns advance probeStart)
section
variable {prog : Program} {w : World} {K : Type} [DecidableEq K] {knd : KeyKind prog w K} {A : Around} {E : Value → Shared → Prop} {s : Shared}
noncomputable def TuSet (knd : KeyKind prog w K) (h : Heap) (a : Addr) (ks : List (List K)) : Prop :=
  ∃ o es ep t, h.get? a = some o ∧ o.ExactSet ∧ o.data = .set es ep t ∧ Tab8 t es.size ∧ (t.mask = 7 → es.size ≤ 4) ∧ es.size = ks.length ∧ ∀ e ∈ es.toList, ∃ k ∈ ks, ∃ b, e.2 = .ref b ∧ IsTupleKey knd h k b
theorem itk_same {h h' : Heap} {k : List K} {a b : Addr} {o : Obj} {es : Array (Int × Value)} {ep : Nat} {t : SetTable} (x : IsTupleKey knd h k b) (ho : h.get? a = some o) (hd : o.data = .set es ep t) (hs : Heap.SameBut a h h') : IsTupleKey knd h' k b := by
  obtain ⟨o', items, n, ho', hc, hd', hi⟩ := x
  refine ⟨o', items, n, ?_, hc, hd', hi⟩
  rw [hs.2 b ?_]
  · exact ho'
  · rintro rfl
    rw [ho] at ho'
    cases ho'
    rw [hd] at hd'
    cases hd'
noncomputable def reord (es : Array (Int × Value)) (laid : Option (SetTable × Array Nat)) : Sem (Array (Int × Value) × SetTable) := do
  let some (t, order) := laid | unsupported "internal:set-table-without-room"
  let es' := order.filterMap (es[·]?)
  if es'.size != es.size then unsupported "internal:set-table-lost-an-element"
  pure (es', t)
theorem relay_ok {a : Addr} {o : Obj} {es : Array (Int × Value)} {ep : Nat} {t : SetTable} {Q : Unit → Shared → Prop} (ho : s.heap.get? a = some o) (hex : o.ExactSet) (hd : o.data = .set es ep t) (hf : t.fits es.size = true) (h5 : es.size ≤ 8)
    (h : ∀ h' o' es' t', Heap.SameBut a s.heap h' → h'.get? a = some o' → o'.ExactSet → o'.data = .set es' (ep + 1) t' → t'.mask = 31 → t'.dummies = #[] → t'.place.size = es.size → es'.size = es.size → (∀ e ∈ es'.toList, e ∈ es.toList) → Q () { s with heap := h' }) :
    wpAny (model prog w) A (setRelay a 20) Q E s := by
  unfold setRelay
  refine wpAny_bind (wpAny_setState_of ho hd hf ?_)
  dsimp only
  rw [if_neg (by decide)]
  obtain ⟨t', order, e, m, dm, ps, os, lt⟩ := relaid_ok (t := t) (hs := es.map (·.1)) (by rw [Array.size_map]; exact h5)
  rw [Array.size_map] at ps os lt
  rw [e]
  refine wpAny_bind (show wpAny _ _ (reord es (some (t', order))) _ _ _ from ?_)
  unfold reord
  dsimp only
  have sz : (order.filterMap (es[·]?)).size = es.size := by
    rw [← Array.length_toList, Array.toList_filterMap, pick_size lt, Array.length_toList, os]
  have nb : ((order.filterMap (es[·]?)).size != es.size) = false := by rw [sz]; simp
  rw [nb]
  simp only [Bool.false_eq_true, if_false]
  refine wpAny_pure ?_
  refine wpAny_storeSet_of ho hd ?_ (by rw [sz]; exact Nat.le_trans h5 (by decide))
  have hg : (s.heap.update a (Obj.putSet (order.filterMap (es[·]?)) t')).get? a = some { o with data := .set (order.filterMap (es[·]?)) (ep + 1) t' } := by
    have := Heap.get?_update_self (Obj.putSet (order.filterMap (es[·]?)) t') ho (by rw [putSet_of _ t' hd]; rfl)
    rw [putSet_of _ t' hd] at this; exact this
  refine h _ _ _ _ (Heap.SameBut.update s.heap a _) hg hex rfl m dm ps sz fun e he => ?_
  rw [Array.toList_filterMap] at he
  obtain ⟨i, _, ei⟩ := List.mem_filterMap.mp he
  exact List.mem_of_getElem? (i := i) (by rw [Array.getElem?_toList]; exact ei)
theorem add_tup {a x : Addr} {ks : List (List K)} {k : List K} {Q : Bool → Shared → Prop} (hu : A.units < cLine) (S : TuSet knd s.heap a ks) (hx : IsTupleKey knd s.heap k x) (hk : k ∉ ks) (l7 : ks.length ≤ 7)
    (h : ∀ h', Heap.SameBut a s.heap h' → TuSet knd h' a (ks ++ [k]) → Q true { s with heap := h', toks := s.toks + (k.length + 1) }) : wpAny (model prog w) A (setAdd a (.ref x)) Q E s := by
  obtain ⟨o, es, ep, t, ho, hex, hd, T, h4, hn, hel⟩ := S
  have hf := tab_fits T
  unfold setAdd
  refine wpAny_holding (wpAny_bind (wpAny_pyHash_tuple hu hx ?_))
  unfold setAddHashed setAddHashedIn
  refine wpAny_holding (wpAny_bind (wpAny_setState_of ho hd hf ?_))
  dsimp only
  rw [show byScan (.ref x) es = false from rfl]
  simp only [Bool.false_eq_true, if_false]
  generalize hh : tupleKeyHash knd k = hash
  have hel' : ∀ e ∈ es.toList, ∃ k' b, e.2 = .ref b ∧ IsTupleKey knd s.heap k' b ∧ k' ≠ k := fun e he => by
    obtain ⟨k', mk, b, eb, hb⟩ := hel e he
    exact ⟨k', b, eb, hb, by rintro rfl; exact hk mk⟩
  obtain ⟨d, hd1, hde⟩ := probe_ends T (hashAt := fun _ => 0) (h := hash) (Pr.start hash).more (Pr.start hash).i (Pr.start hash).per
  have d1 : d < 100000 := by
    have : 10 * turns t.mask ≤ 460 := by rcases T.mask with m | m <;> rw [m] <;> decide
    omega
  refine wpAny_bind (show wpAny _ _ (setSearchFrom a (.ref x) hash true 100000 none) _ _ _ from search_free (s := { s with toks := s.toks + (k.length + 1) }) hu ho hd T hx hel' (fun j ej => ?_) d 100000 _ none rfl rfl (Pr.start hash) hd1 d1 hde)
  dsimp only
  refine wpAny_bind (wpAny_setState_of ho hd hf ?_)
  dsimp only
  have tm : (t.put j).1.mask = t.mask := rfl
  have td : (t.put j).1.dummies = #[] := by
    unfold SetTable.put
    rw [T.dum]
    rfl
  have tp : (t.put j).1.place.size = es.size + 1 := by
    show (SetTable.insertAt t.place _ j).size = _
    rw [insertAt_size, T.size]
  generalize t.put j = tq at tm td tp
  obtain ⟨t1, p1⟩ := tq
  dsimp only at tm td tp ⊢
  have fin : ∀ t2 : SetTable, t2.mask = t.mask → t2.dummies = #[] → t2.place.size = es.size + 1 → wpAny (model prog w) A (do
      storeSet a (SetTable.insertAt es p1 (hash, Value.ref x)) t2
      if (!false && t2.tooFull) = true then do
        setRelay a (SetTable.grown (es.size + 1))
        pure true
      else pure true) Q E { s with toks := s.toks + (k.length + 1) } := fun t2 m2 d2 p2 => by
    have is := insertAt_size es p1 (hash, Value.ref x)
    refine wpAny_bind (wpAny_storeSet_of (s := { s with toks := s.toks + (k.length + 1) }) ho hd ?_ (by rw [is]; exact Nat.le_trans (show es.size + 1 ≤ 8 by omega) (by decide)))
    have hg : (s.heap.update a (Obj.putSet (SetTable.insertAt es p1 (hash, Value.ref x)) t2)).get? a = some { o with data := .set (SetTable.insertAt es p1 (hash, Value.ref x)) (ep + 1) t2 } := by
      have := Heap.get?_update_self (Obj.putSet (SetTable.insertAt es p1 (hash, Value.ref x)) t2) ho (by rw [putSet_of _ t2 hd]; rfl)
      rw [putSet_of _ t2 hd] at this; exact this
    have s1 := Heap.SameBut.update s.heap a (Obj.putSet (SetTable.insertAt es p1 (hash, Value.ref x)) t2)
    have el1 : ∀ e ∈ (SetTable.insertAt es p1 (hash, Value.ref x)).toList, ∃ k' ∈ ks ++ [k], ∃ b, e.2 = .ref b ∧ IsTupleKey knd s.heap k' b := fun e he => by
      rcases insertAt_mem he with he | rfl
      · obtain ⟨k', mk, b, eb, hb⟩ := hel e he
        exact ⟨k', List.mem_append_left _ mk, b, eb, hb⟩
      · exact ⟨k, List.mem_append_right _ (List.mem_singleton.mpr rfl), x, rfl, hx⟩
    generalize SetTable.insertAt es p1 (hash, Value.ref x) = es1 at hg s1 el1 is
    generalize s.heap.update a (Obj.putSet es1 t2) = h1 at hg s1
    have fit : t2.fits es1.size = true := by
      unfold SetTable.fits SetTable.fill
      rw [d2, p2, is, m2]
      have := T.few
      simp
      omega
    have tf : t2.tooFull = decide ((es.size + 1) * 5 ≥ t.mask * 3) := by
      unfold SetTable.tooFull SetTable.fill
      rw [d2, p2, m2]
      rfl
    by_cases c : (es.size + 1) * 5 ≥ t.mask * 3
    · have m7 : t.mask = 7 ∧ es.size = 4 := by
        have := T.le
        rcases T.mask with m | m
        · have := h4 m
          rw [m] at c
          exact ⟨m, by omega⟩
        · rw [m] at c
          omega
      rw [tf, decide_eq_true c]
      simp only [Bool.not_false, Bool.and_self, if_true]
      rw [m7.2]
      refine wpAny_bind (show wpAny _ _ (setRelay a 20) _ _ _ from relay_ok (s := { s with heap := h1, toks := s.toks + (k.length + 1) }) hg hex rfl fit (by omega) fun h2 o2 es2 t3 s2 ho2 hex2 hd2 m3 d3 p3 z3 sub => wpAny_pure ?_)
      refine h h2 (s1.trans s2) ⟨o2, es2, _, t3, ho2, hex2, hd2, ⟨.inr m3, d3, by rw [p3, z3], by omega, by omega⟩, (fun z => absurd (m3.symm.trans z) (by decide)), by rw [List.length_append, List.length_singleton]; omega, fun e he => ?_⟩
      obtain ⟨k', mk, b, eb, hb⟩ := el1 e (sub e he)
      exact ⟨k', mk, b, eb, itk_same (itk_same hb ho hd s1) hg rfl s2⟩
    · rw [tf, decide_eq_false c]
      simp only [Bool.and_false, Bool.false_eq_true, if_false]
      have le8 : es1.size ≤ 8 := by omega
      refine wpAny_pure (h h1 s1 ⟨_, es1, _, t2, hg, hex, rfl, ⟨by rw [m2]; exact T.mask, d2, by rw [p2, is], le8, ?_⟩, fun z => ?_, by rw [is, List.length_append, List.length_singleton]; omega, fun e he => ?_⟩)
      · rw [is, m2]
        rcases T.mask with m | m <;> rw [m] at c ⊢ <;> omega
      · rw [m2] at z
        rw [z] at c
        omega
      · obtain ⟨k', mk, b, eb, hb⟩ := el1 e he
        exact ⟨k', mk, b, eb, itk_same hb ho hd s1⟩
  split
  · refine wpAny_bind (hbv_tuple (s := { s with toks := s.toks + (k.length + 1) }) hx fun b => ?_)
    cases b with
    | true => exact fin t1 tm td tp
    | false => exact fin { t1 with plain := false } tm td tp
  · exact wpAny_bind (wpAny_pure (fin t1 tm td tp))
end
end L2
-- MOD Tp8
namespace L2
open PySem PySem.Spec PyProof.Rows
section
variable {prog : Program} {w : World} {K : Type} [DecidableEq K] {knd : KeyKind prog w K} {A : Around} {E : Value → Shared → Prop} {R : Result → Shared → Prop} {I : Addr} {fp wr : List Addr} {n : Nat} {P : Nat → Value → Prop} {St : Nat → Heap → Prop}
theorem itk_keep {h h' : Heap} {k : List K} {b : Addr} (x : IsTupleKey knd h k b) (hk : ∀ o, h.get? b = some o → h'.get? b = some o) : IsTupleKey knd h' k b := by
  obtain ⟨o, items, n, ho, r⟩ := x
  exact ⟨o, items, n, hk o ho, r⟩
theorem tus_keep {h h' : Heap} {a : Addr} {ks : List (List K)} (S : TuSet knd h a ks) (ha : ∀ o, h.get? a = some o → h'.get? a = some o) (hk : ∀ k b, IsTupleKey knd h k b → IsTupleKey knd h' k b) : TuSet knd h' a ks := by
  obtain ⟨o, es, ep, t, ho, hex, hd, T, h4, hn, hel⟩ := S
  refine ⟨o, es, ep, t, ha o ho, hex, hd, T, h4, hn, fun e he => ?_⟩
  obtain ⟨k, mk, b, eb, hb⟩ := hel e he
  exact ⟨k, mk, b, eb, hk k b hb⟩
theorem set_loopT (hu : A.in1.units < cLine) (W : Walks prog w A.in1 I fp wr n P St) {D : Addr} (hD : D ∉ fp) (hw : ∀ h i, St i h → ∀ b ∈ wr, ∀ k, ¬ IsTupleKey knd h k b) {ks : List (List K)} (hn : ks.length = n) (nd : ks.Nodup) (n8 : n ≤ 8) :
    ∀ (j i : Nat) (z : Shared), n - i = j → i ≤ n → St i z.heap → TuSet knd z.heap D (ks.take i) → (∀ i v k, P i v → ks[i]? = some k → ∃ b, v = .ref b ∧ IsTupleKey knd z.heap k b) →
      (∀ h' tk, (∀ b o, b ∉ D :: wr → z.heap.get? b = some o → h'.get? b = some o) → TuSet knd h' D ks → R (.ok (.ret .none)) { z with heap := h', toks := tk }) →
      codeAny (model prog w) A (.builtin "set.update.loop" ⟨[.ref D, .ref I], []⟩) R z := by
  have hDw : D ∉ wr := fun h => hD (W.sub _ h)
  intro j
  induction j with
  | zero =>
    intro i z hj hi st hS hv hR
    obtain rfl : i = n := by omega
    refine codeAny_builtin PyProof.Rows.F.entry_set_update_loop ?_
    rw [Around.under_plainId PyProof.Rows.F.plain_set_update_loop _]
    show wpAny _ A.in1 (pyNext (.ref I) >>= _) _ _ z
    refine wpAny_bind (W.done z _ _ st fun h' tk kk => ?_)
    rw [List.take_of_length_le (Nat.le_of_eq hn)] at hS
    exact wpAny_pure (hR h' tk (fun b o hb e => kk b o (fun m => hb (List.mem_cons_of_mem _ m)) e) (tus_keep hS (fun o e => kk D o hDw e) fun k b hb => itk_keep hb fun o e => kk b o (fun m => hw _ _ st b m k hb) e))
  | succ j ih =>
    intro i z hj hi st hS hv hR
    have lt : i < n := by omega
    refine codeAny_builtin PyProof.Rows.F.entry_set_update_loop ?_
    rw [Around.under_plainId PyProof.Rows.F.plain_set_update_loop _]
    show wpAny _ A.in1 (pyNext (.ref I) >>= _) _ _ z
    refine wpAny_bind (W.item i z _ _ lt st fun v h1 tk1 hP st1 k1 => ?_)
    have hk : ks[i]? = some (ks[i]'(by omega)) := List.getElem?_eq_getElem _
    have keep : ∀ k b, IsTupleKey knd z.heap k b → IsTupleKey knd h1 k b := fun k b hb => itk_keep hb fun o e => k1 b o (fun m => hw _ _ st b m k hb) e
    obtain ⟨b, rfl, hb⟩ := hv i v _ hP hk
    have hS1 : TuSet knd h1 D (ks.take i) := tus_keep hS (fun o e => k1 D o hDw e) keep
    show wpAny _ A.in1 (holding [.ref b] (setAdd D (.ref b)) >>= _) _ _ _
    refine wpAny_bind (wpAny_holding ?_)
    have et : ks.take (i + 1) = ks.take i ++ [ks[i]'(by omega)] := by rw [List.take_add_one, hk]; rfl
    have nin : ks[i]'(by omega) ∉ ks.take i := by
      have := (List.take_append_drop (i + 1) ks) ▸ nd
      rw [et, List.append_assoc] at this
      have := (List.nodup_append.mp this).2.2
      exact fun m => this _ m _ (List.mem_append_left _ (List.mem_singleton.mpr rfl)) rfl
    have tl := List.length_take_le i ks
    obtain ⟨o, es, ep, t, ho, hex, hd, _⟩ := id hS1
    refine add_tup (s := { z with heap := h1, toks := tk1 }) hu hS1 (keep _ _ hb) nin (by omega) fun h2 sb2 hS2 => ?_
    rw [← et] at hS2
    have keep2 : ∀ k b, IsTupleKey knd h1 k b → IsTupleKey knd h2 k b := fun k b hb => itk_same hb ho hd sb2
    refine wpAny_pure ⟨plainId_quiet PyProof.Rows.F.plain_set_update_loop _, ih (i + 1) _ (by omega) lt (W.frame _ h1 _ st1 fun b hb o e => ?_) hS2 (fun i v k hp hk => ?_) fun h' tk kk hS' => hR h' tk (fun b o hb e => kk b o hb ?_) hS'⟩
    · rw [sb2.2 b (fun q : b = D => hD (by rw [← q]; exact hb))]; exact e
    · obtain ⟨b, e, hb⟩ := hv i v k hp hk
      exact ⟨b, e, keep2 _ _ (keep _ _ hb)⟩
    · rw [sb2.2 b (fun q : b = D => hb (by rw [q]; exact List.mem_cons_self))]; exact k1 b o (fun m => hb (List.mem_cons_of_mem _ m)) e
end
end L2
-- MOD Tp9
namespace L2
open PySem PySem.Spec PyProof.Rows
section
variable {κ : Type} [DecidableEq κ] {prog : Program} {w : World} {A : Around} {E : Value → Shared → Prop} {z : Shared}
theorem no_iter {knd : KeyKind prog w κ} {h : Heap} {I l b : Addr} {i : Nat} {k : List κ} (st : h.IsListIter I l i) (hb : b = I) (hk : IsTupleKey knd h k b) : False := by
  subst hb
  obtain ⟨o, ho, hc, hd⟩ := st
  obtain ⟨o', items, n, ho', hc', hd', _⟩ := hk
  rw [ho] at ho'
  cases ho'
  rw [hc] at hc'
  exact absurd hc' (by decide)
noncomputable def SetMadeT (knd : KeyKind prog w κ) (ks : List (List κ)) (z : Shared) (r : Value) (z' : Shared) : Prop :=
  r = .none ∧ ∃ h' tk, z' = { z with heap := h', toks := tk } ∧ TuSet knd h' z.heap.objs.size ks ∧ ∀ b o, b < z.heap.objs.size → z.heap.get? b = some o → h'.get? b = some o
set_option maxHeartbeats 6400000 in
theorem call_setT {knd : KeyKind prog w κ} {l : Addr} {its : Array Value} {ks : List (List κ)} {Q : Value → Shared → Prop} (hu : A.units + 64 < cLine) (hh : A.handled = none) (hl : z.heap.IsList l its) (hn : ks.length = its.size)
    (nd : ks.Nodup) (hv : ∀ (i : Nat) (v : Value) (k : List κ), its[i]? = some v → ks[i]? = some k → ∃ b, v = .ref b ∧ IsTupleKey knd z.heap k b) (hb : its.size ≤ 8)
    (h : ∀ z', SetMadeT knd ks z .none z' → Q (.ref z.heap.objs.size) z') : wpAny (model prog w) A (call (.type "set") [.ref l]) Q E z := by
  obtain ⟨mc, mt, m0⟩ := PySem.F.called_set.mro
  have m1 := PySem.F.called_set.made
  have m2 := PySem.F.called_set.sub
  refine wpAny_call (codeAny_of_tree ?_)
  show wpAny _ _ (callAny (.type "set") _) _ _ _
  refine wpAny_pure ⟨Code.quiet_builtin _ (by decide +kernel), codeAny_builtin PySem.F.entry_type_call ?_⟩
  rw [Around.under_plain (weight_type_call_type "set" [.ref l] []) rfl]
  have m3 := PySem.F.called_set.notType
  have m4 := PySem.F.called_set.canCreate
  have m5 := PySem.F.typeCall_set_1 (.ref l)
  repeat (any_goals (first | assumption | wp_step))
  refine codeAny_mono (code_set_new_1 (.ref l) (E := E) (Q₁ := fun r z1 => ∃ b : Bool, r = .ref z.heap.objs.size ∧ z1 = { z with heap := z.heap.push (bareSet b) }) fun b => ⟨b, rfl, rfl⟩) fun r z1 hr => ?_
  cases r with
  | error e => exact hr
  | ok fl =>
    cases fl with
    | next => exact hr.elim
    | brk => exact hr.elim
    | cont => exact hr.elim
    | ret r =>
      obtain ⟨b, rfl, rfl⟩ := hr
      have g0 : (z.heap.push (bareSet b)).get? z.heap.objs.size = some (bareSet b) := Heap.get?_push_size _ rfl
      have ty : Shared.TypeIs { z with heap := z.heap.push (bareSet b) } (.ref z.heap.objs.size) "set" := ⟨_, g0, rfl⟩
      have i1 := PySem.F.called_set.init.lookup
      have i2 := PySem.F.called_set.init.bind (.ref z.heap.objs.size)
      repeat (any_goals (first | assumption | wp_step))
      refine codeAny_mono (codeAny_call_builtin (R := wants (SetMadeT knd ks z) E) PySem.F.called_set.init.plain PySem.F.entry_set_init (check_set_init_1 ty ?_)) fun r2 z2 hr2 => ?_
      · obtain ⟨⟨oc, od, odt, osl⟩, ho, c1, nl, d1⟩ := hl
        simp only at c1 d1
        subst c1 d1
        have ho1 : (z.heap.push (bareSet b)).get? l = some { cls := .type "list", dict := od, data := .seq its nl, slots := osl } := Heap.get?_push_of_some _ ho
        have s1 := PySem.F.sub_list_set
        have s2 := PySem.F.sub_list_frozenset
        have s3 : (Value.type "list" == Value.type "dict") = false := by decide
        have hl1 : (z.heap.push (bareSet b)).IsList l its := ⟨_, ho1, rfl, nl, rfl⟩
        unfold Builtin.«set.__init__» noKeywords Builtin.Frozenset.updateFrom
        generalize ePI : pyIter = PI
        wp_walk
        subst ePI
        refine wpAny_pyIter_list hl1 ?_
        refine wpAny_bind (wpAny_runValue ?_)
        have lt : l < z.heap.objs.size := Heap.lt_size ho
        have sz1 : (z.heap.push (bareSet b)).objs.size = z.heap.objs.size + 1 := Heap.size_push _ _
        have neI : l ≠ (z.heap.push (bareSet b)).objs.size := by rw [sz1]; exact Nat.ne_of_lt (Nat.lt_succ_of_lt lt)
        have nD : z.heap.objs.size ∉ [(z.heap.push (bareSet b)).objs.size, l] := by
          rw [sz1]
          simp only [List.mem_cons, List.not_mem_nil, or_false, not_or]
          exact ⟨Nat.ne_of_lt (Nat.lt_succ_self _), Nat.ne_of_gt lt⟩
        refine set_loopT (by first | (show A.units + _ < cLine; omega) | (simp only [Around.in1_units]; omega)) (Walks.list (by simp [hh]) _ l neI its) nD (knd := knd) (ks := ks) (fun h i st b hb k hk => no_iter st.1 (by simpa using hb) hk) hn nd hb (its.size - 0) 0 _ (by omega) (Nat.zero_le _) ⟨⟨_, Heap.get?_push_size _ rfl, rfl, rfl⟩, hl1.push _⟩ ?_ ?_ fun h' tk kk hS => ?_
        · exact ⟨_, #[], 0, _, Heap.get?_push_of_some _ g0, ⟨rfl, rfl, rfl⟩, rfl, ⟨.inl rfl, rfl, rfl, by decide, by show 0 < 7; decide⟩, fun _ => by decide, rfl, fun e he => by simp at he⟩
        · intro i v k hp hk
          obtain ⟨b', e, hb'⟩ := hv i v k hp hk
          exact ⟨b', e, itk_keep hb' fun o e => Heap.get?_push_of_some _ (Heap.get?_push_of_some _ e)⟩
        · show wpAny _ _ _ _ _ _
          refine wpAny_pure ?_
          show wpAny _ _ (ret Value.none) _ _ _
          refine wpAny_pure ⟨rfl, h', tk, rfl, hS, fun c o hc e => kk c o ?_ (Heap.get?_push_of_some _ (Heap.get?_push_of_some _ e))⟩
          rw [sz1]
          simp only [List.mem_cons, List.not_mem_nil, or_false, not_or]
          exact ⟨Nat.ne_of_lt hc, Nat.ne_of_lt (Nat.lt_succ_of_lt hc)⟩
      · cases r2 with
        | error e => exact hr2
        | ok fl2 =>
          cases fl2 with
          | next => exact hr2.elim
          | brk => exact hr2.elim
          | cont => exact hr2.elim
          | ret r =>
            have hs := hr2
            obtain ⟨rfl, h', tk, rfl, hS, kk⟩ := hr2
            repeat (any_goals (first | assumption | wp_step))
            exact h _ hs
end
end L2
-- MOD Tp10
namespace L2
open PySem PySem.Spec PyProof.Rows
noncomputable def SetN (d : Addr) (n : Nat) : HO := .ext fun h => ∃ o es ep t, h.get? d = some o ∧ o.ExactSet ∧ o.data = .set es ep t ∧ t.fits es.size = true ∧ es.size = n
section
variable {X : Cx}
theorem items_strs {P : Program} {w : World} : ∀ {k : List Str} {us : List Value}, Vals (k.map V.str) us → ItemsAre (strKind P w) k us
  | [], _, .nil => .nil
  | x :: r, _, .cons h t => by
    obtain ⟨tk, rfl⟩ := (show ∃ t, _ = Value.str x t from h)
    exact .cons (strKind_is _ _ _ _) (items_strs t)
theorem refs_get : ∀ {ts : List Addr} {us : List Value} {i : Nat} {v : Value}, Vals (ts.map V.ref) us → us[i]? = some v → ∃ t, ts[i]? = some t ∧ v = .ref t
  | [], _, i, v, .nil, h => by simp at h
  | b :: r, _, 0, v, .cons a t, h => by
    simp at h
    subst h
    exact ⟨b, rfl, a⟩
  | b :: r, _, i + 1, v, .cons a t, h => refs_get (ts := r) (i := i) t (by simpa using h)
theorem call_set_tups (hc : X.calm = true) (hu : X.A.units + 64 < cLine) : CallR X (.type "set") (fun xs H Q => ∃ (p : Addr) (ts : List Addr) (kss : List (List Str)), xs = [.ref p] ∧ H p = some (.lst (ts.map V.ref)) ∧ ts.length = kss.length ∧ (∀ (i : Nat) (t : Addr) (k : List Str), ts[i]? = some t → kss[i]? = some k → H t = some (.tup (k.map V.str))) ∧ kss.Nodup ∧ kss.length ≤ 8 ∧ ∀ d, H d = none → Q (.ref d) (upd H d (SetN d kss.length))) := by
  intro pins s σ H xs us Q I r h
  obtain ⟨p, ts, kss, rfl, hp, hl, ht, nd, hz, q⟩ := h
  obtain ⟨u, rfl, ru⟩ := v1 r
  cases (show u = Value.ref p from ru)
  obtain ⟨its, rv, pl, _⟩ := I.list (SqL.of hp)
  have hlen : its.length = kss.length := by rw [← rv.length, List.length_map, hl]
  refine call_setT (knd := strKind X.prog X.w) (ks := kss) hu (I.ok.hd hc) pl.isList (by rw [List.size_toArray, hlen]) nd (fun i v k h1 h2 => ?_) (by rw [List.size_toArray, hlen]; exact hz) fun z' hs => ?_
  · obtain ⟨t, et, rfl⟩ := refs_get rv (by simpa using h1)
    refine ⟨t, rfl, ?_⟩
    obtain ⟨_, its2, r2, ob, e1, e2, n, e3⟩ := (show ObjOk X.prog X.w H s.heap t (.tup (k.map V.str)) from I.hok t _ (ht i t k et h2))
    refine ⟨ob, its2.toArray, n, e1, e2, e3, ?_⟩
    exact items_strs r2
  · obtain ⟨_, h', tk, rfl, hS, kk⟩ := hs
    refine ⟨.ref s.heap.objs.size, _, I.laid (t' := tk) (a := s.heap.objs.size) (o := SetN s.heap.objs.size kss.length) (fun b o e => kk b o (Heap.lt_size e) e) (Nat.le_refl _) ?_, rfl, q _ (I.hok.fresh (Nat.le_refl _))⟩
    obtain ⟨o, es, ep, t, ho, hex, hd, T, h4, hn, hel⟩ := hS
    refine ⟨⟨o, es, ep, t, ho, hex, hd, tab_fits T, hn⟩, ⟨o, ho⟩, fun h1 h2 hs1 k12 => ?_⟩
    obtain ⟨o, es, ep, t, e, more⟩ := hs1
    exact ⟨o, es, ep, t, k12 o e, more⟩
theorem call_len_setN : CallR X (.builtin "len") (fun xs H Q => ∃ (d : Addr) (n : Nat), xs = [.ref d] ∧ H d = some (SetN d n) ∧ n ≤ 8 ∧ Q (.int (n : Nat)) H) := by
  intro pins s σ H xs us Q I r h
  obtain ⟨d, n, rfl, hd, hz, q⟩ := h
  obtain ⟨u, rfl, ru⟩ := v1 r
  cases (show u = Value.ref d from ru)
  obtain ⟨hS, _, _⟩ := I.hok d _ hd
  obtain ⟨o, es, ep, t, e, hex, hdt, hf, hn⟩ := hS
  refine call_len_set e hex hdt hf ?_ ?_
  · omega
  · rw [hn]
    exact ⟨.int _, H, I.tok _, ⟨_, rfl⟩, q⟩
end
end L2
-- MOD K4A
namespace My
open PySem L2
noncomputable def top (i : Nat) : Stmt := PySem.Challenge.pw_cometorest_k04_too_many_states.main.body.getD i (.Pass ⟨0, 0, 0, 0⟩)
noncomputable abbrev sIsName : Stmt := top 8
noncomputable abbrev sUnlike : Stmt := top 9
noncomputable abbrev sPair : Stmt := top 10
noncomputable abbrev sFields : Stmt := top 11
noncomputable abbrev sCount : Stmt := top 12
noncomputable abbrev sInit : Stmt := inClass (top 13) 0
noncomputable abbrev sPicks : Stmt := top 14
noncomputable abbrev sStates : Stmt := top 15
noncomputable abbrev sMixed : Stmt := top 18
noncomputable abbrev sDigits : Stmt := top 19
noncomputable abbrev sNext : Stmt := top 20
noncomputable abbrev sSign : Stmt := top 21
noncomputable abbrev sNames : Stmt := top 22
noncomputable abbrev sLaw : Stmt := top 24
noncomputable def letters : Str := "abcdefghijklmnopqrstuvwxyz"
structure Tops (K : PySem.W.Frag) (mg : Str → Option Value) : Prop where
  isinst : mg "isinstance" = none
  len : mg "len" = none
  all : mg "all" = none
  set : mg "set" = none
  range : mg "range" = none
  str : mg "str" = none
  list : mg "list" = none
  tuple : mg "tuple" = none
  zip : mg "zip" = none
  int : mg "int" = none
  lets : ∃ t, mg "LETTERS" = some (.str letters t)
  most : ∃ t, mg "MOST_LETTERS" = some (.int 8 t)
  mostS : ∃ t, mg "MOST_STATES" = some (.int 8 t)
noncomputable def charB (c : Nat) : Bool := decide (c ∈ letters.cps.toList)
noncomputable def nameB (x : Str) : Bool := decide (1 ≤ x.length) && decide (x.length ≤ 8) && x.cps.toList.all charB
noncomputable def spIsName (K : PySem.W.Frag) : Sp := fun vs H Q _ => (∃ x, vs = [.str x] ∧ x.length ≤ 1000 ∧ ∀ H', Same H H' → Q (.bl (nameB x)) H') ∨
  ∃ v t, vs = [v] ∧ TyOf K H v t ∧ PySem.W.kitOne K t (.type "str") = some false ∧ Q (.bl false) H
section
variable {P : Program} {w : World} {K : PySem.W.Frag} {mg : Str → Option Value} {base : Heap} {CX : CXT}
theorem scIN : FnScope ["thing"] ["thing"] (defScope sIsName) := ⟨rfl, rfl, rfl, by decide +kernel, rfl, by decide +kernel, by decide +kernel⟩
theorem ok_isName {f : Addr} {fd : FuncData} (F : Fun K "is_name" "is_name" sIsName f fd) (T : Tops K mg) : FnOk P w K mg base CX 1 f fd ["thing"] (spIsName K) := by
  refine F.okC scIN (fun vs H Q E h => ?_) (fun cdv A outer s H vs Q E hr h => ?_)
  · rcases h with ⟨x, rfl, _⟩ | ⟨v, t, rfl, _⟩ <;> rfl
  · obtain ⟨tl, hlets⟩ := T.lets
    obtain ⟨tm, hmost⟩ := T.most
    refine ⟨_, pss_cons (ps_if (pt_not (pt_val (pe_callB call_isinst rfl T.isinst PyProof.Rows.boot_isinstance (pa_cons (pv 0) (pa_cons (pe_bltn (v := .ty "str") rfl T.str PyProof.Rows.boot_str rfl) pa_nil))))) (pss_one (ps_ret pe_bl)) pss_nil)
      (pss_one (ps_ret (pe_and (pe_chain op_le op_le pe_int (pe_callB call_len_str rfl T.len PySem.boot_len (pa_cons (pv 0) pa_nil)) (pe_glob (v := .int 8) rfl hmost ⟨_, rfl⟩))
        (pe_one (pe_callB (call_all rfl) rfl T.all PyProof.Rows.boot_all (pa_cons (pe_comp (T := ["sign"]) rfl ScOk.auto (pi_str (pv 0)) (fun _ _ _ _ => pg_name (i := 1) (by decide +kernel : (["thing", "sign"] : List Str).Nodup) rfl (Or.inl rfl)) (fun _ _ _ _ => pf_nil)
          (fun _ _ _ _ => pe_cmpR op_in_str (pv 1) (pe_glob (v := .str letters) rfl hlets ⟨_, rfl⟩) rfl)) pa_nil)))))), ?_⟩
    rcases h with ⟨x, rfl, hx, k⟩ | ⟨v, t, rfl, ty, hk, k⟩
    · refine ⟨_, rfl, _, _, _, _, _, rfl, .str x, rfl, rfl, _, rfl, iteF ?_⟩
      have hz : x.length ≤ sizeLine := Nat.le_of_lt (small1000 hx)
      refine ⟨_, rfl, x, rfl, hz, _, _, rfl, rfl, _, rfl, ?_⟩
      refine ite2 (fun h1 => ?_) (fun h1 => ?_)
      · refine ⟨_, _, rfl, rfl, _, rfl, ?_⟩
        refine ite2 (fun h2 => ?_) (fun h2 => ?_)
        · refine ⟨_, rfl, x, rfl, comp_chars (fun _ => true) (fun c => .bl (charB c)) hz (fun c Ry Rn q _ => ?_) (fun d hd => ?_)⟩
          · refine iteT (B := Rn H) ⟨_, rfl, _, _, rfl, rfl, ?_⟩
            rw [PySem.StrLaws.found_one]
            exact q rfl
          · refine ⟨d, x.cps.toList.map charB, rfl, SqL.of ?_, ?_⟩
            · rw [upd_same, List.filter_eq_self.mpr (fun _ _ => rfl), List.map_map]
              rfl
            · have e : nameB x = (x.cps.toList.map charB).all id := by
                have a1 : 1 ≤ x.length := by have := of_decide_eq_true h1; omega
                have a2 : x.length ≤ 8 := by have := of_decide_eq_true h2; omega
                unfold nameB
                rw [decide_eq_true a1, decide_eq_true a2, List.all_map]
                rfl
              rw [← e]
              exact k _ (Same.new hd)
        · have a2 : ¬ x.length ≤ 8 := fun z => h2 (decide_eq_true (by omega))
          have e : nameB x = false := by unfold nameB; rw [decide_eq_false a2]; simp
          rw [← e]
          exact k _ (Same.refl _)
      · have a1 : ¬ 1 ≤ x.length := fun z => h1 (decide_eq_true (by omega))
        have e : nameB x = false := by unfold nameB; rw [decide_eq_false a1]; simp
        refine ⟨false, rfl, iteF ?_⟩
        rw [← e]
        exact k _ (Same.refl _)
    · exact ⟨_, rfl, _, _, _, _, _, rfl, ty, rfl, hk, _, rfl, iteT k⟩
end
noncomputable def spMixed : Sp := fun vs H Q _ => ∃ c k : Int, vs = [.int c, .int k] ∧ 0 ≤ k ∧ k ≤ 1000000 ∧ ∀ n : Int, 0 ≤ n → n < 2147483629 → Q (.int n) H
noncomputable def Src (H : Hp) (p : Addr) (k : Int) : Prop := ∃ a c j : Int, H p = some (.lst [.int a, .int c, .int j]) ∧ 0 ≤ j ∧ j ≤ k
noncomputable def spDigits : Sp := fun vs H Q _ => ∃ c : Int, vs = [.int c] ∧ ∀ p H', H p = none → Src H' p 0 → Same H H' → (∀ b, b ≠ p → H' b = H b) → Q (.ref p) H'
noncomputable def spNext : Sp := fun vs H Q _ => ∃ (p : Addr) (m k : Int), vs = [.ref p, .int m] ∧ Src H p k ∧ k ≤ 999998 ∧ 0 < m ∧ m < 2 ^ 64 ∧
  ∀ (r : Int) (H' : Hp), 0 ≤ r → r < m → Src H' p (k + 1) → (∀ b, b ≠ p → H' b = H b) → Q (.int r) H'
section
variable {P : Program} {w : World} {K : PySem.W.Frag} {mg : Str → Option Value} {base : Heap} {CX : CXT}
theorem scMx : FnScope ["_law_cell", "_law_k", "_law_number"] ["_law_cell", "_law_k"] (defScope sMixed) := ⟨rfl, rfl, rfl, by decide +kernel, rfl, by decide +kernel, by decide +kernel⟩
theorem ok_mixed {f : Addr} {fd : FuncData} (F : Fun K "_law_mixed" "_law_mixed" sMixed f fd) : FnOk P w K mg base CX 1 f fd ["_law_cell", "_law_k"] spMixed := by
  refine F.okC scMx (fun vs H Q E h => ?_) (fun cdv A outer s H vs Q E hr h => ?_)
  · obtain ⟨c, k, rfl, _⟩ := h
    rfl
  · obtain ⟨c, k, rfl, h0, h1, q⟩ := h
    refine ⟨_, pss_cons (ps_set (i := 2) scMx.nd rfl (Or.inl rfl) (pe_op op_mod (pe_op op_mul (pe_op op_add (pe_op op_add (pe_op op_mod (pv 0) pe_int) (pe_op op_mul pe_int (pv 1))) pe_int) pe_int) pe_int))
      (pss_cons (ps_set (i := 2) scMx.nd rfl (Or.inl rfl) (pe_op op_mod (pe_op op_mul (pv 2) (pe_op op_add (pe_op op_fdiv (pv 2) pe_int) pe_int)) pe_int))
      (pss_cons (ps_set (i := 2) scMx.nd rfl (Or.inl rfl) (pe_op op_mod (pe_op op_mul (pv 2) (pe_op op_add (pe_op op_add (pe_op op_fdiv (pv 2) pe_int) pe_int) (pv 1))) pe_int))
      (pss_one (ps_ret (pe_op op_mod (pe_op op_mul (pv 2) (pe_op op_add (pe_op op_fdiv (pv 2) pe_int) pe_int)) pe_int))))), ?_⟩
    have M : (0 : Int) < 2147483629 := by decide
    have lo : ∀ z : Int, 0 ≤ z % 2147483629 := fun z => Int.emod_nonneg _ (by decide)
    have hi : ∀ z : Int, z % 2147483629 < 2147483629 := fun z => Int.emod_lt_of_pos _ M
    have cm : ∀ z y : Int, CMul (z % 2147483629) y := fun z y => by have := lo z; have := hi z; exact .inl ⟨by omega, by omega⟩
    refine ⟨_, rfl, _, _, rfl, rfl, M, _, rfl, _, _, rfl, rfl, .inl ⟨by decide, by decide⟩, _, _, rfl, rfl, _, _, rfl, rfl, _, _, rfl, rfl, .inr ⟨by decide, by decide⟩, _, _, rfl, rfl, M, ?_⟩
    refine ⟨_, rfl, _, rfl, _, _, rfl, rfl, ⟨by decide, by decide⟩, _, _, rfl, rfl, _, _, rfl, rfl, cm _ _, _, _, rfl, rfl, M, ?_⟩
    refine ⟨_, rfl, _, rfl, _, _, rfl, rfl, ⟨by decide, by decide⟩, _, _, rfl, rfl, _, rfl, _, _, rfl, rfl, _, _, rfl, rfl, cm _ _, _, _, rfl, rfl, M, ?_⟩
    refine ⟨_, rfl, _, rfl, _, _, rfl, rfl, ⟨by decide, by decide⟩, _, _, rfl, rfl, _, _, rfl, rfl, cm _ _, _, _, rfl, rfl, M, ?_⟩
    exact q _ (lo _) (hi _)
theorem scDg : FnScope ["_law_cell"] ["_law_cell"] (defScope sDigits) := ⟨rfl, rfl, rfl, by decide +kernel, rfl, by decide +kernel, by decide +kernel⟩
theorem ok_digits {f : Addr} {fd : FuncData} (F : Fun K "_law_digits" "_law_digits" sDigits f fd) : FnOk P w K mg base CX 1 f fd ["_law_cell"] spDigits := by
  refine F.okC scDg (fun vs H Q E h => ?_) (fun cdv A outer s H vs Q E hr h => ?_)
  · obtain ⟨c, rfl, _⟩ := h
    rfl
  · obtain ⟨c, rfl, q⟩ := h
    refine ⟨_, pss_one (ps_ret (pe_lst (pa_cons (pe_op op_mul (pe_op op_fdiv (pv 0) pe_int) (pe_op op_sub pe_int (pe_op op_mod (pv 0) pe_int))) (pa_cons (pv 0) (pa_cons pe_int pa_nil))))), ?_⟩
    have a1 : 0 ≤ c % 2 := Int.emod_nonneg _ (by decide)
    have a2 : c % 2 < 2 := Int.emod_lt_of_pos _ (by decide)
    refine ⟨_, rfl, _, _, rfl, rfl, ⟨by decide, by decide⟩, _, rfl, _, _, rfl, rfl, (by show (0 : Int) < 2; decide), _, _, rfl, rfl, _, _, rfl, rfl, .inr ⟨by omega, by omega⟩, _, rfl, (by show 3 ≤ sizeLine; decide), fun p hp => ?_⟩
    exact q p _ hp ⟨_, _, 0, upd_same, by decide, by decide⟩ (Same.new hp) fun b hb => upd_ne hb
theorem scNx : FnScope ["_law_source", "_law_many", "_law_got"] ["_law_source", "_law_many"] (defScope sNext) := ⟨rfl, rfl, rfl, by decide +kernel, rfl, by decide +kernel, by decide +kernel⟩
theorem ok_next {f fm : Addr} {fd fdm : FuncData} (hC : Calm CX) (F : Fun K "_law_next" "_law_next" sNext f fd) (DM : Def K mg "_law_mixed" sMixed ["_law_cell", "_law_k"] fm fdm) : FnOk P w K mg base CX 2 f fd ["_law_source", "_law_many"] spNext := by
  have GM : FnOk P w K mg base CX 1 fm fdm ["_law_cell", "_law_k"] spMixed := ok_mixed DM.fn
  refine F.okC scNx (fun vs H Q E h => ?_) (fun cdv A outer s H vs Q E hr h => ?_)
  · obtain ⟨p, m, k, rfl, _⟩ := h
    rfl
  · obtain ⟨p, m, k, rfl, ⟨a, c, j, hp, j0, j1⟩, hk, m0, m1, q⟩ := h
    refine ⟨_, pss_cons (ps_if (pt_cmpR op_gt (pe_ix ix_list (pv 0) pe_int (fun _ _ => rfl)) pe_int (nomark _))
        (pss_cons (ps_set (i := 2) scNx.nd rfl (Or.inl rfl) (pe_op op_mod (pe_ix ix_list (pv 0) pe_int (fun _ _ => rfl)) (pv 1)))
        (pss_cons (ps_asg (pe_op op_fdivB (pe_ix ix_list (pv 0) pe_int (fun _ _ => rfl)) (pv 1)) (pg_sub (pv 0) pe_int set_list))
        (pss_one (ps_ret (pv 2))))) pss_nil)
      (pss_cons (ps_asg (pe_op op_add (pe_ix ix_list (pv 0) pe_int (fun _ _ => rfl)) pe_int) (pg_sub (pv 0) pe_int set_list))
      (pss_one (ps_ret (pe_op op_mod (pe_call GM hr rfl DM.at_ DM.fn.kp DM.bind .nil (passC hC) (pa_cons (pe_ix ix_list (pv 0) pe_int (fun _ _ => rfl)) (pa_cons (pe_ix ix_list (pv 0) pe_int (fun _ _ => rfl)) pa_nil))) (pv 1))))), ?_⟩
    have S0 : SqL K H p [.int a, .int c, .int j] := SqL.of hp
    refine ⟨_, rfl, p, _, _, _, rfl, rfl, S0, rfl, _, _, rfl, rfl, _, rfl, ?_⟩
    refine ite2 (fun h0 => ?_) (fun h0 => ?_)
    · refine ⟨_, rfl, p, _, _, _, rfl, rfl, S0, rfl, _, rfl, _, _, rfl, rfl, m0, ?_⟩
      refine ⟨_, rfl, p, _, _, _, rfl, rfl, S0, rfl, _, rfl, _, _, rfl, rfl, ⟨m0, m1⟩, ?_⟩
      refine ⟨_, rfl, p, _, _, 0, rfl, rfl, hp, rfl, ?_⟩
      refine ⟨_, rfl, q _ _ (Int.emod_nonneg _ (by omega)) (Int.emod_lt_of_pos _ m0) ⟨_, _, j, upd_same, j0, by omega⟩ fun b hb => upd_ne hb⟩
    · refine ⟨_, rfl, p, _, _, _, rfl, rfl, S0, rfl, _, _, rfl, rfl, ?_⟩
      refine ⟨_, rfl, p, _, _, 2, rfl, rfl, hp, rfl, ?_⟩
      have S1 : SqL K (upd H p (.lst [.int a, .int c, .int (j + 1)])) p [.int a, .int c, .int (j + 1)] := SqL.of upd_same
      refine ⟨_, rfl, p, _, _, _, rfl, rfl, S1, rfl, _, rfl, p, _, _, _, rfl, rfl, S1, rfl, c, j + 1, rfl, by omega, by omega, fun n n0 n1 => ?_⟩
      refine ⟨_, rfl, _, _, rfl, rfl, m0, ?_⟩
      exact q _ _ (Int.emod_nonneg _ (by omega)) (Int.emod_lt_of_pos _ m0) ⟨_, _, j + 1, upd_same, by omega, by omega⟩ fun b hb => upd_ne hb
end
theorem Src.mono {H : Hp} {p : Addr} {k l : Int} (h : Src H p k) (hl : k ≤ l) : Src H p l := by
  obtain ⟨a, c, j, e, j0, j1⟩ := h
  exact ⟨a, c, j, e, j0, by omega⟩
noncomputable def nameD : PyData → Bool
  | .str x => nameB x
  | _ => false
noncomputable def strsOf : List PyData → List Str
  | .str x :: r => x :: strsOf r
  | _ :: r => strsOf r
  | [] => []
noncomputable def unlikeB (ds : List PyData) : Bool := ds.all nameD && decide (strsOf ds).Nodup
noncomputable def pairB : PyData → Bool
  | .tuple [_, .list vs] => decide (0 < vs.length) && unlikeB vs
  | _ => false
noncomputable def firstD : PyData → PyData
  | .tuple (d :: _) => d
  | _ => .none
noncomputable def fieldsB : PyData → Bool
  | .list ds => ds.all pairB && unlikeB (ds.map firstD)
  | _ => false
noncomputable def spNameD : Sp := fun vs H Q _ => ∃ v d, vs = [v] ∧ Has Any H v d ∧ ∀ H', Same H H' → Q (.bl (nameD d)) H'
noncomputable def spUnlike : Sp := fun vs H Q _ => ∃ v ds, vs = [v] ∧ Has Any H v (.list ds) ∧ ∀ H', Same H H' → Q (.bl (unlikeB ds)) H'
noncomputable def spPair : Sp := fun vs H Q _ => ∃ v d, vs = [v] ∧ Has Any H v d ∧ ∀ H', Same H H' → Q (.bl (pairB d)) H'
noncomputable def spFields : Sp := fun vs H Q _ => ∃ v d, vs = [v] ∧ Has Any H v d ∧ ∀ H', Same H H' → Q (.bl (fieldsB d)) H'
theorem strs_all {G : Addr → Prop} {H : Hp} : ∀ {xs : List V} {ds : List PyData}, HasAll G H xs ds → ds.all nameD = true → xs = (strsOf ds).map V.str ∧ (strsOf ds).length = ds.length
  | _, _, .nil, _ => ⟨rfl, rfl⟩
  | _, _, .cons h t, e => by
    rw [List.all_cons, Bool.and_eq_true] at e
    obtain ⟨e1, e2⟩ := e
    obtain ⟨q1, q2⟩ := strs_all t e2
    cases h with
    | str x _ _ => exact ⟨by rw [q1]; rfl, by rw [strsOf, List.length_cons, List.length_cons, q2]⟩
    | non => cases e1
    | bl b => cases e1
    | int i => cases e1
    | lst _ _ _ _ => cases e1
    | tup _ _ _ _ => cases e1
section
variable {P : Program} {w : World} {K : PySem.W.Frag} {mg : Str → Option Value} {base : Heap} {CX : CXT}
theorem name_imp {vs : List V} {H : Hp} {Q : VK} {E : XK} (h : spNameD vs H Q E) : spIsName K vs H Q E := by
  obtain ⟨v, d, rfl, hd, q⟩ := h
  cases hd with
  | str x hx ho => exact .inl ⟨x, rfl, hx, q⟩
  | non => exact .inr ⟨_, _, rfl, .non, rfl, q _ (Same.refl _)⟩
  | bl b => exact .inr ⟨_, _, rfl, .bl b, rfl, q _ (Same.refl _)⟩
  | int i => exact .inr ⟨_, _, rfl, .int i, rfl, q _ (Same.refl _)⟩
  | lst _ e _ _ => exact .inr ⟨_, _, rfl, .lst e, rfl, q _ (Same.refl _)⟩
  | tup _ e _ _ => exact .inr ⟨_, _, rfl, .tup e, rfl, q _ (Same.refl _)⟩
theorem ok_nameD {f : Addr} {fd : FuncData} (F : Fun K "is_name" "is_name" sIsName f fd) (T : Tops K mg) : FnOk P w K mg base CX 1 f fd ["thing"] spNameD := (ok_isName F T).imp fun _ _ _ _ h => name_imp h
theorem scUl : FnScope ["things"] ["things"] (defScope sUnlike) := ⟨rfl, rfl, rfl, by decide +kernel, rfl, by decide +kernel, by decide +kernel⟩
theorem ok_unlike {f fn : Addr} {fd fdn : FuncData} (hC : Calm CX) (T : Tops K mg) (F : Fun K "are_unlike_names" "are_unlike_names" sUnlike f fd) (DN : Def K mg "is_name" sIsName ["thing"] fn fdn) : FnOk P w K mg base CX 2 f fd ["things"] spUnlike := by
  have GN : FnOk P w K mg base CX 1 fn fdn ["thing"] spNameD := ok_nameD DN.fn T
  refine F.okC scUl (fun vs H Q E h => ?_) (fun cdv A outer s H vs Q E hr h => ?_)
  · obtain ⟨v, ds, rfl, _⟩ := h
    rfl
  · obtain ⟨v, ds, rfl, hd, k⟩ := h
    obtain ⟨a, xs, rfl, _, ha, hz, hx⟩ := hd.list_inv
    have hzl : xs.length ≤ sizeLine := Nat.le_of_lt (small1000 hz)
    refine ⟨_, pss_one (ps_ret (pe_and (pe_callB (call_all rfl) rfl T.all PyProof.Rows.boot_all (pa_cons (pe_comp (T := ["thing"]) rfl ScOk.auto (pi_list (pv 0)) (fun _ _ _ _ => pg_name (i := 1) (by decide +kernel : (["things", "thing"] : List Str).Nodup) rfl (Or.inl rfl)) (fun _ _ _ _ => pf_nil)
        (fun _ _ _ _ => pe_call GN hr rfl DN.at_ DN.fn.kp DN.bind .nil (passC hC) (pa_cons (pv 1) pa_nil))) pa_nil))
      (pe_one (pe_cmpR op_eq (pe_callB call_len_set_strs rfl T.len PySem.boot_len (pa_cons (pe_callTy (call_set_strs rfl) rfl T.set PyProof.Rows.boot_set (pa_cons (pv 0) pa_nil)) pa_nil)) (pe_callB call_len_seq rfl T.len PySem.boot_len (pa_cons (pv 0) pa_nil)) (nomark _))))), ?_⟩
    refine ⟨_, rfl, a, rfl, ⟨xs, SqL.of ha⟩, comp_list (xs := xs) (fun i ys H' => Same H H' ∧ ys = (ds.take i).map fun d => V.bl (nameD d)) ⟨Same.refl _, rfl⟩ (fun i ys H' p => SqL.of (p.1 _ _ ha)) (fun i ys H' hi p => ?_) ?_ ?_⟩
    · rw [p.2, List.length_map]
      have := List.length_take_le i ds
      omega
    · rintro i x ys H' hi ⟨s1, rfl⟩ N hN
      obtain ⟨d, hd', hv⟩ := hx.get hi
      refine pick ?_
      refine ⟨_, rfl, _, d, rfl, hv.mono s1, fun H2 s2 => hN _ _ ⟨s1.trans s2, ?_⟩⟩
      rw [List.take_add_one, hd', List.map_append]
      rfl
    · rintro ys H' ⟨s1, rfl⟩ p hp
      have e : (ds.take xs.length).map (fun d => V.bl (nameD d)) = (ds.map nameD).map V.bl := by
        rw [hx.length, List.take_length, List.map_map]
        rfl
      have s2 : Same H (upd H' p (.lst ((ds.take xs.length).map fun d => V.bl (nameD d)))) := s1.trans (Same.new hp)
      refine ⟨p, ds.map nameD, rfl, SqL.of (by rw [upd_same, e]), _, rfl, ?_⟩
      have ea : (ds.map nameD).all id = ds.all nameD := by rw [List.all_map]; rfl
      rw [ea]
      cases eb : ds.all nameD with
      | false =>
        refine iteF ?_
        have e0 : unlikeB ds = false := by unfold unlikeB; rw [eb]; rfl
        rw [← e0]
        exact k _ s2
      | true =>
        refine iteT ?_
        obtain ⟨q1, q2⟩ := strs_all hx eb
        subst q1
        have ha2 := s2 _ _ ha
        have hz4 : (strsOf ds).length ≤ 4000 := by rw [List.length_map] at hz; omega
        refine ⟨_, rfl, a, strsOf ds, rfl, SqL.of ha2, hz4, fun d hd2 => ?_⟩
        refine ⟨d, strsOf ds, rfl, upd_same, hz4, ?_⟩
        refine ⟨_, rfl, a, _, rfl, .inl (SqL.of ((Same.new hd2) _ _ ha2)), rfl, ?_⟩
        have e1 : decide (V.int ((dl (strsOf ds)).length : Int) = V.int (((strsOf ds).map V.str).length : Int)) = unlikeB ds := by
          unfold unlikeB
          rw [eb, Bool.true_and, ← dl_len_iff, List.length_map]
          by_cases q : (dl (strsOf ds)).length = (strsOf ds).length
          · rw [decide_eq_true q, q]
            simp
          · rw [decide_eq_false q, decide_eq_false]
            intro z
            injection z with z
            omega
        rw [e1]
        exact k _ (s2.trans (Same.new hd2))
end
noncomputable def sizeD : PyData → Nat
  | .tuple [_, .list vs] => vs.length
  | _ => 0
noncomputable def countD (ds : List PyData) : Int := ds.foldl (fun m d => m * (sizeD d : Int)) 1
noncomputable def spCount : Sp := fun vs H Q _ => ∃ v ds, vs = [v] ∧ Has Any H v (.list ds) ∧ ds.all pairB = true ∧ Q (.int (countD ds)) H
theorem pair_inv {G : Addr → Prop} {H : Hp} {v : V} {d : PyData} (h : Has G H v d) (e : pairB d = true) :
    ∃ a x y n l vs ys, v = .ref a ∧ G a ∧ H a = some (.tup [x, y]) ∧ d = .tuple [n, .list vs] ∧ Has G H x n ∧ y = .ref l ∧ G l ∧ H l = some (.lst ys) ∧ ys.length ≤ 1000 ∧ HasAll G H ys vs ∧ 0 < vs.length ∧ unlikeB vs = true := by
  cases h with
  | non => cases e
  | bl b => cases e
  | int i => cases e
  | str x _ _ => cases e
  | lst _ _ _ _ => cases e
  | tup g s z q =>
    cases q with
    | nil => cases e
    | cons h1 q =>
      cases q with
      | nil => cases e
      | cons h2 q =>
        cases q with
        | cons _ _ => cases h2 <;> cases e
        | nil =>
          cases h2 with
          | non => cases e
          | bl b => cases e
          | int i => cases e
          | str x _ _ => cases e
          | tup _ _ _ _ => cases e
          | lst g2 s2 z2 q2 =>
            have e' : (decide _ && unlikeB _) = true := e
            rw [Bool.and_eq_true] at e'
            exact ⟨_, _, _, _, _, _, _, rfl, g, s, rfl, h1, rfl, g2, s2, z2, q2, of_decide_eq_true e'.1, e'.2⟩
section
variable {P : Program} {w : World} {K : PySem.W.Frag} {mg : Str → Option Value} {base : Heap} {CX : CXT}
theorem scPr : FnScope ["thing", "values"] ["thing"] (defScope sPair) := ⟨rfl, rfl, rfl, by decide +kernel, rfl, by decide +kernel, by decide +kernel⟩
theorem ok_pair {f fu fn : Addr} {fd fdu fdn : FuncData} (hC : Calm CX) (T : Tops K mg) (F : Fun K "is_pair_with_values" "is_pair_with_values" sPair f fd) (DN : Def K mg "is_name" sIsName ["thing"] fn fdn)
    (DU : Def K mg "are_unlike_names" sUnlike ["things"] fu fdu) : FnOk P w K mg base CX 3 f fd ["thing"] spPair := by
  have GU : FnOk P w K mg base CX 2 fu fdu ["things"] spUnlike := ok_unlike hC T DU.fn DN
  refine F.okC scPr (fun vs H Q E h => ?_) (fun cdv A outer s H vs Q E hr h => ?_)
  · obtain ⟨v, d, rfl, _⟩ := h
    rfl
  · obtain ⟨v, d, rfl, hd, k⟩ := h
    refine ⟨_, pss_cons (ps_if (PW.pt (pw_or (pt_not (pt_val (pe_callB call_isinst rfl T.isinst PyProof.Rows.boot_isinstance (pa_cons (pv 0) (pa_cons (pe_bltn (v := .ty "tuple") rfl T.tuple PyProof.Rows.boot_tuple rfl) pa_nil)))))
        (pw_or1 (pt_cmpR op_ne (pe_callB call_len_seq rfl T.len PySem.boot_len (pa_cons (pv 0) pa_nil)) pe_int (nomark _))))) (pss_one (ps_ret pe_bl)) pss_nil)
      (pss_cons (ps_set (i := 1) scPr.nd rfl (Or.inl rfl) (pe_ix ix_tup (pv 0) pe_int (fun _ _ => rfl)))
      (pss_one (ps_ret (pe_and (pe_callB call_isinst rfl T.isinst PyProof.Rows.boot_isinstance (pa_cons (pv 1) (pa_cons (pe_bltn (v := .ty "list") rfl T.list PyProof.Rows.boot_list rfl) pa_nil)))
        (pe_and (pe_cmpR op_gt (pe_callB call_len_seq rfl T.len PySem.boot_len (pa_cons (pv 1) pa_nil)) pe_int (nomark _))
          (pe_one (pe_call GU hr rfl DU.at_ DU.fn.kp DU.bind .nil (passC hC) (pa_cons (pv 1) pa_nil)))))))), ?_⟩
    have k0 : pairB d = false → Q (.bl false) H := fun e => by rw [← e]; exact k _ (Same.refl _)
    refine ⟨_, rfl, ?_⟩
    cases hd with
    | non => exact ⟨_, _, _, _, _, rfl, .non, rfl, rfl, _, rfl, iteT (iteT (k0 rfl))⟩
    | bl b => exact ⟨_, _, _, _, _, rfl, (.bl b), rfl, rfl, _, rfl, iteT (iteT (k0 rfl))⟩
    | int i => exact ⟨_, _, _, _, _, rfl, (.int i), rfl, rfl, _, rfl, iteT (iteT (k0 rfl))⟩
    | str x _ _ => exact ⟨_, _, _, _, _, rfl, (.str x), rfl, rfl, _, rfl, iteT (iteT (k0 rfl))⟩
    | lst _ e _ _ => exact ⟨_, _, _, _, _, rfl, (.lst e), rfl, rfl, _, rfl, iteT (iteT (k0 rfl))⟩
    | @tup a xs ds _ e z q =>
      refine ⟨_, _, _, _, _, rfl, .tup e, rfl, rfl, _, rfl, iteF ?_⟩
      refine ⟨_, rfl, a, xs, rfl, .inr (SqT.of e), rfl, _, rfl, ?_⟩
      have hl := q.length
      by_cases h2 : xs.length = 2
      · rw [decide_eq_true (show V.int (xs.length : Int) = V.int 2 by rw [h2]; rfl)]
        refine iteF ?_
        obtain ⟨d0, d1, rfl⟩ : ∃ d0 d1, ds = [d0, d1] := by
          match ds, hl.symm.trans h2 with
          | [d0, d1], _ => exact ⟨d0, d1, rfl⟩
        cases q with
        | @cons x0 _ _ _ q0 q =>
          cases q with
          | @cons x1 _ _ _ q1 q =>
            cases q
            refine ⟨_, rfl, a, _, _, x1, rfl, rfl, SqT.of e, rfl, ?_⟩
            refine ⟨_, rfl, ?_⟩
            cases q1 with
            | non => exact ⟨_, _, _, _, _, rfl, .non, rfl, rfl, _, rfl, iteF (k0 rfl)⟩
            | bl b => exact ⟨_, _, _, _, _, rfl, (.bl b), rfl, rfl, _, rfl, iteF (k0 rfl)⟩
            | int i => exact ⟨_, _, _, _, _, rfl, (.int i), rfl, rfl, _, rfl, iteF (k0 rfl)⟩
            | str x _ _ => exact ⟨_, _, _, _, _, rfl, (.str x), rfl, rfl, _, rfl, iteF (k0 rfl)⟩
            | tup _ e1 _ _ => exact ⟨_, _, _, _, _, rfl, (.tup e1), rfl, rfl, _, rfl, iteF (k0 rfl)⟩
            | @lst l ys vs g1 e1 z1 q1 =>
              refine ⟨_, _, _, _, _, rfl, .lst e1, rfl, rfl, _, rfl, iteT ?_⟩
              refine ⟨_, rfl, l, ys, rfl, .inl (SqL.of e1), _, _, rfl, rfl, _, rfl, ?_⟩
              refine ite2 (fun h0 => ?_) (fun h0 => ?_)
              · refine ⟨_, rfl, _, vs, rfl, .lst g1 e1 z1 q1, fun H' s' => ?_⟩
                have e0 : pairB (.tuple [d0, .list vs]) = unlikeB vs := by
                  show (decide (0 < vs.length) && unlikeB vs) = _
                  rw [decide_eq_true, Bool.true_and]
                  have := q1.length
                  have := of_decide_eq_true h0
                  omega
                rw [← e0]
                exact k _ s'
              · refine k0 ?_
                show (decide (0 < vs.length) && unlikeB vs) = _
                rw [decide_eq_false, Bool.false_and]
                have := q1.length
                intro z0
                exact h0 (decide_eq_true (by omega))
      · rw [decide_eq_false (show ¬ V.int (xs.length : Int) = V.int 2 by intro z0; injection z0 with z0; omega)]
        refine iteT (k0 ?_)
        match ds, hl with
        | [], _ => rfl
        | [_], _ => rfl
        | [_, _], hl => exact absurd hl h2
        | _ :: d1 :: _ :: _, _ => cases d1 <;> rfl
end
theorem all_get {ds : List PyData} {f : PyData → Bool} {i : Nat} {d : PyData} (h : ds.all f = true) (e : ds[i]? = some d) : f d = true := List.all_eq_true.mp h d (List.mem_of_getElem? e)
section
variable {P : Program} {w : World} {K : PySem.W.Frag} {mg : Str → Option Value} {base : Heap} {CX : CXT}
theorem scFd : FnScope ["things"] ["things"] (defScope sFields) := ⟨rfl, rfl, rfl, by decide +kernel, rfl, by decide +kernel, by decide +kernel⟩
theorem ok_fields {f fp fu fn : Addr} {fd fdp fdu fdn : FuncData} (hC : Calm CX) (T : Tops K mg) (F : Fun K "are_fields" "are_fields" sFields f fd) (DN : Def K mg "is_name" sIsName ["thing"] fn fdn)
    (DU : Def K mg "are_unlike_names" sUnlike ["things"] fu fdu) (DP : Def K mg "is_pair_with_values" sPair ["thing"] fp fdp) : FnOk P w K mg base CX 4 f fd ["things"] spFields := by
  have GU : FnOk P w K mg base CX 2 fu fdu ["things"] spUnlike := ok_unlike hC T DU.fn DN
  have GP : FnOk P w K mg base CX 3 fp fdp ["thing"] spPair := ok_pair hC T DP.fn DN DU
  refine F.okC scFd (fun vs H Q E h => ?_) (fun cdv A outer s H vs Q E hr h => ?_)
  · obtain ⟨v, d, rfl, _⟩ := h
    rfl
  · obtain ⟨v, d, rfl, hd, k⟩ := h
    have hr2 := hr.mono (show 2 ≤ 3 by decide)
    refine ⟨_, pss_cons (ps_if (PW.pt (pw_or (pt_not (pt_val (pe_callB call_isinst rfl T.isinst PyProof.Rows.boot_isinstance (pa_cons (pv 0) (pa_cons (pe_bltn (v := .ty "list") rfl T.list PyProof.Rows.boot_list rfl) pa_nil)))))
        (pw_or1 (pt_not (pt_val (pe_callB (call_all rfl) rfl T.all PyProof.Rows.boot_all (pa_cons (pe_comp (T := ["thing"]) rfl ScOk.auto (pi_list (pv 0)) (fun _ _ _ _ => pg_name (i := 1) (by decide +kernel : (["things", "thing"] : List Str).Nodup) rfl (Or.inl rfl)) (fun _ _ _ _ => pf_nil)
        (fun _ _ _ _ => pe_call GP hr rfl DP.at_ DP.fn.kp DP.bind .nil (passC hC) (pa_cons (pv 1) pa_nil))) pa_nil))))))) (pss_one (ps_ret pe_bl)) pss_nil)
      (pss_one (ps_ret (pe_call GU hr2 rfl DU.at_ DU.fn.kp DU.bind .nil (passC hC) (pa_cons (pe_comp (T := ["thing"]) rfl ScOk.auto (pi_list (pv 0)) (fun _ _ _ _ => pg_name (i := 1) (by decide +kernel : (["things", "thing"] : List Str).Nodup) rfl (Or.inl rfl)) (fun _ _ _ _ => pf_nil)
        (fun _ _ _ _ => pe_ix (r := rIxT K) ix_tup (pv 1) pe_int (fun _ _ => rfl))) pa_nil)))), ?_⟩
    have k0 : fieldsB d = false → ∀ H', Same H H' → Q (.bl false) H' := fun e H' s' => by rw [← e]; exact k _ s'
    refine ⟨_, rfl, ?_⟩
    cases hd with
    | non => exact ⟨_, _, _, _, _, rfl, .non, rfl, rfl, _, rfl, iteT (iteT (k0 rfl _ (Same.refl _)))⟩
    | bl b => exact ⟨_, _, _, _, _, rfl, (.bl b), rfl, rfl, _, rfl, iteT (iteT (k0 rfl _ (Same.refl _)))⟩
    | int i => exact ⟨_, _, _, _, _, rfl, (.int i), rfl, rfl, _, rfl, iteT (iteT (k0 rfl _ (Same.refl _)))⟩
    | str x _ _ => exact ⟨_, _, _, _, _, rfl, (.str x), rfl, rfl, _, rfl, iteT (iteT (k0 rfl _ (Same.refl _)))⟩
    | tup _ e _ _ => exact ⟨_, _, _, _, _, rfl, (.tup e), rfl, rfl, _, rfl, iteT (iteT (k0 rfl _ (Same.refl _)))⟩
    | @lst a xs ds _ ha hz hx =>
      refine ⟨_, _, _, _, _, rfl, .lst ha, rfl, rfl, _, rfl, iteF ?_⟩
      refine ⟨_, rfl, a, rfl, ⟨xs, SqL.of ha⟩, comp_list (xs := xs) (fun i ys H' => Same H H' ∧ ys = (ds.take i).map fun d => V.bl (pairB d)) ⟨Same.refl _, rfl⟩ (fun i ys H' p => SqL.of (p.1 _ _ ha)) (fun i ys H' hi p => ?_) ?_ ?_⟩
      · rw [p.2, List.length_map]
        have := List.length_take_le i ds
        have := small1000 hz
        omega
      · rintro i x ys H' hi ⟨s1, rfl⟩ N hN
        obtain ⟨d, hd', hv⟩ := hx.get hi
        refine pick ?_
        refine ⟨_, rfl, _, d, rfl, hv.mono s1, fun H2 s2 => hN _ _ ⟨s1.trans s2, ?_⟩⟩
        rw [List.take_add_one, hd', List.map_append]
        rfl
      · rintro ys H' ⟨s1, rfl⟩ p hp
        have e : (ds.take xs.length).map (fun d => V.bl (pairB d)) = (ds.map pairB).map V.bl := by
          rw [hx.length, List.take_length, List.map_map]
          rfl
        have s2 : Same H (upd H' p (.lst ((ds.take xs.length).map fun d => V.bl (pairB d)))) := s1.trans (Same.new hp)
        refine ⟨p, ds.map pairB, rfl, SqL.of (by rw [upd_same, e]), _, rfl, ?_⟩
        have ea : (ds.map pairB).all id = ds.all pairB := by rw [List.all_map]; rfl
        rw [ea]
        cases eb : ds.all pairB with
        | false =>
          refine iteT (k0 ?_ _ s2)
          show (ds.all pairB && _) = false
          rw [eb]
          rfl
        | true =>
          refine iteF ?_
          have ha2 := s2 _ _ ha
          generalize upd H' p (.lst ((ds.take xs.length).map fun d => V.bl (pairB d))) = H3 at s2 ha2 ⊢
          refine ⟨_, rfl, a, rfl, ⟨xs, SqL.of ha2⟩, comp_list (xs := xs) (fun i ys H' => H' = H3 ∧ HasAll Any H3 ys ((ds.take i).map firstD)) ⟨rfl, .nil⟩ (fun i ys H' p => by rw [p.1]; exact SqL.of ha2) (fun i ys H' hi p => ?_) ?_ ?_⟩
          · have := p.2.length
            rw [List.length_map] at this
            have := List.length_take_le i ds
            have := small1000 hz
            omega
          · rintro i x ys H' hi ⟨rfl, hy⟩ N hN
            obtain ⟨d, hd', hv⟩ := hx.get hi
            obtain ⟨b, x0, y0, n, l, vs, zs, rfl, _, hb, rfl, hn, _⟩ := pair_inv hv (all_get eb hd')
            refine pick ?_
            refine ⟨_, rfl, b, _, _, x0, rfl, rfl, SqT.of (s2 _ _ hb), rfl, hN _ _ ⟨rfl, ?_⟩⟩
            rw [List.take_add_one, hd', List.map_append]
            exact hy.snoc (hn.mono s2)
          · rintro ys H' ⟨rfl, hy⟩ q hq
            have s3 := s2.trans (Same.new (o := .lst ys) hq)
            have hl : ys.length ≤ 1000 := by
              have := hy.length
              rw [List.length_map] at this
              have := List.length_take_le xs.length ds
              omega
            refine ⟨_, ds.map firstD, rfl, .lst trivial upd_same hl ?_, fun H4 s4 => ?_⟩
            · rw [hx.length, List.take_length] at hy
              exact hy.mono (Same.new hq)
            · have e1 : fieldsB (.list ds) = unlikeB (ds.map firstD) := by
                show (ds.all pairB && unlikeB (ds.map firstD)) = _
                rw [eb]
                rfl
              rw [← e1]
              exact k _ (s3.trans s4)
theorem scCt : FnScope ["fields", "many", "field"] ["fields"] (defScope sCount) := ⟨rfl, rfl, rfl, by decide +kernel, rfl, by decide +kernel, by decide +kernel⟩
theorem ok_count {f : Addr} {fd : FuncData} (T : Tops K mg) (F : Fun K "count_states" "count_states" sCount f fd) : FnOk P w K mg base CX 1 f fd ["fields"] spCount := by
  refine F.okC scCt (fun vs H Q E h => ?_) (fun cdv A outer s H vs Q E hr h => ?_)
  · obtain ⟨v, ds, rfl, _⟩ := h
    rfl
  · obtain ⟨v, ds, rfl, hd, eb, k⟩ := h
    obtain ⟨a, xs, rfl, _, ha, hz, hx⟩ := hd.list_inv
    refine ⟨_, pss_cons (ps_set (i := 1) scCt.nd rfl (Or.inl rfl) pe_int)
      (pss_cons (ps_for PassesOwn.never rfl (pi_list (pv 0)) (pg_name (i := 2) scCt.nd rfl (Or.inl rfl))
        (pss_one (ps_set (i := 1) scCt.nd rfl (Or.inl rfl) (pe_op op_mul (pv 1) (pe_callB call_len_seq rfl T.len PySem.boot_len (pa_cons (pe_ix ix_tup (pv 2) pe_int (fun _ _ => rfl)) pa_nil))))))
      (pss_one (ps_ret (pv 1)))), ?_⟩
    refine ⟨_, rfl, a, rfl, ⟨xs, SqL.of ha⟩, for_list (K := K) (a := a) (xs := xs) (fun i σ H2 => ∃ u, σ = [some (.ref a), some (.int (countD (ds.take i))), u] ∧ H2 = H) ⟨none, rfl, rfl⟩ (fun i σ H2 _ ⟨_, _, e⟩ => by rw [e]; exact SqL.of ha) ?_ ?_⟩
    · rintro i x σ H2 hi ⟨u, rfl, rfl⟩
      obtain ⟨d, hd', hv⟩ := hx.get hi
      obtain ⟨b, x0, y0, n, l, vs, zs, rfl, _, hb, rfl, hn, rfl, _, hl, hzl, hvs, _⟩ := pair_inv hv (all_get eb hd')
      refine ⟨_, rfl, _, rfl, b, _, _, _, rfl, rfl, SqT.of hb, rfl, l, zs, rfl, .inl (SqL.of hl), _, _, rfl, rfl, .inr ⟨by omega, by omega⟩, ⟨some (.ref b), ?_, rfl⟩⟩
      have e : countD (ds.take (i + 1)) = countD (ds.take i) * (zs.length : Int) := by
        rw [List.take_add_one, hd']
        unfold countD
        rw [List.foldl_append]
        show _ * ((sizeD (.tuple [n, .list vs]) : Nat) : Int) = _
        rw [hvs.length]
        rfl
      rw [e]
      rfl
    · rintro σ H2 ⟨u, rfl, rfl⟩
      refine ⟨_, rfl, ?_⟩
      rw [hx.length, List.take_length]
      exact k
end
structure FunD (K : PySem.W.Frag) (x qual : Str) (st : Stmt) (dV : Value) (f : Addr) (fd : FuncData) : Prop where
  ex : ∃ (oc : Value) (od : Option Addr) (kV doc pm : Value) (an : Option Addr) (cdv ct : Value) (osl : Array (Option Value)),
    fd = PySem.W.fnOf x qual (defArgs st) (defBody st) (defScope st) dV kV doc pm an cdv ct ∧ K.lookup f = some ⟨oc, od, .func fd, osl⟩ ∧ PySem.W.codeIn K cdv qual = true
theorem FunD.okC {P : Program} {w : World} {K : PySem.W.Frag} {mg : Str → Option Value} {base : Heap} {CX : CXT} {x qual : Str} {st : Stmt} {dV : Value} {f : Addr} {fd : FuncData} {N ps : List Str} {k : Nat} {sp : Sp} (F : FunD K x qual st dV f fd) (S : FnScope N ps (defScope st)) (len : ∀ vs H Q E, sp vs H Q E → vs.length = ps.length)
    (hbody : ∀ (cdv : Value) (A : Around) (outer : List Env) (s : Shared) (H : Hp) (vs : List V) (Q : VK) (E : XK), Room k (A.deeper (PyProof.Rows.envOfC qual (defScope st) s.heap.objs.size f cdv)) → sp vs H Q E →
      ∃ t, PSs (cxOf CX P w K mg base N qual (defScope st) f cdv A outer s H E).nox (defBody st) t ∧ t { nx := fun _ H' => Q .non H', rt := Q } (start N vs) H) : FnOk P w K mg base CX (k + 1) f fd ps sp := by
  obtain ⟨oc, od, kV, doc, pm, an, cdv, ct, osl, rfl, lk, hcd⟩ := F.ex
  refine fn_of lk hcd S len fun A outer s H vs Q E hr hsp => ?_
  obtain ⟨t, h, q⟩ := hbody cdv A outer s H vs Q E hr hsp
  exact ⟨t, h.nox, q⟩
theorem ffo : ¬ (("fields" : Str) = "owner") := by decide +kernel
noncomputable def kflds (n f o : V) : List (Str × V) := putF "owner" o (putF "fields" f (putF "name" n []))
theorem kf_fields (n f o : V) : (kflds n f o).lookup ("fields" : Str) = some f := by
  unfold kflds
  rw [lookup_putF, if_neg ffo, lookup_putF, if_pos rfl]
structure KCls (K : PySem.W.Frag) (mg : Str → Option Value) (C fI : Addr) : Prop where
  cl : Cls K C
  nN : NoAttr K C "name"
  nF : NoAttr K C "fields"
  nO : NoAttr K C "owner"
  mgC : mg "Kind" = some (.ref C)
  mkd : Mk K C fI
theorem name_any {G G' : Addr → Prop} {H H' : Hp} {v : V} {d : PyData} (h : Has G H v d) (e : nameD d = true) : Has G' H' v d := by
  cases h with
  | str x a b => exact .str x a b
  | non => cases e
  | bl b => cases e
  | int i => cases e
  | lst _ _ _ _ => cases e
  | tup _ _ _ _ => cases e
theorem names_any {G G' : Addr → Prop} {H H' : Hp} : ∀ {xs : List V} {ds : List PyData}, HasAll G H xs ds → ds.all nameD = true → HasAll G' H' xs ds
  | _, _, .nil, _ => .nil
  | _, _, .cons h t, e => by
    rw [List.all_cons, Bool.and_eq_true] at e
    exact .cons (name_any h e.1) (names_any t e.2)
theorem unlike_all {ds : List PyData} (h : unlikeB ds = true) : ds.all nameD = true := by
  have z : (ds.all nameD && decide (strsOf ds).Nodup) = true := h
  rw [Bool.and_eq_true] at z
  exact z.1
noncomputable def ownerD (n : Str) : PyData → Bool
  | .none => true
  | .str o => nameB o && !decide (o = n)
  | _ => false
noncomputable def spInit (C : Addr) : Sp := fun vs H Q _ => ∃ (p dx : Addr) (vf vo : V) (n : Str) (ds : List PyData) (od : PyData), vs = [.ref p, .str n, vf, vo] ∧ H p = some (.ins C dx []) ∧ n.length ≤ 1000 ∧ PyData.strOk n = true ∧ nameB n = true ∧
  Has Any H vf (.list ds) ∧ fieldsB (.list ds) = true ∧ Has Any H vo od ∧ ownerD n od = true ∧ countD ds ≤ 8 ∧
  ∀ (H' : Hp) (l : Addr), H' p = some (.ins C dx (kflds (.str n) (.ref l) vo)) → Has (fun a => H a = none) H' (.ref l) (.list ds) → (∀ b o, H b = some o → b ≠ p → H' b = some o) → Q .non H'
section
variable {P : Program} {w : World} {K : PySem.W.Frag} {mg : Str → Option Value} {base : Heap} {CX : CXT}
theorem scKi : FnScope ["self", "name", "fields", "owner"] ["self", "name", "fields", "owner"] (defScope sInit) := ⟨rfl, rfl, rfl, by decide +kernel, rfl, by decide +kernel, by decide +kernel⟩
theorem k_both {R : Hp → Prop} {H1 : Hp} {B : Prop} (t : ∀ Hx, Same H1 Hx → R Hx) (h : (∀ Hx, Same H1 Hx → R Hx) → B) : B := h t
theorem ok_init {f C ff fc fp fu fn : Addr} {fd fdf fdc fdp fdu fdn : FuncData} {dV : Value} (hC : Calm CX) (T : Tops K mg) (F : FunD K "__init__" "Kind.__init__" sInit dV f fd) (KC : KCls K mg C f) (DN : Def K mg "is_name" sIsName ["thing"] fn fdn)
    (DU : Def K mg "are_unlike_names" sUnlike ["things"] fu fdu) (DP : Def K mg "is_pair_with_values" sPair ["thing"] fp fdp) (DF : Def K mg "are_fields" sFields ["things"] ff fdf) (DC : Def K mg "count_states" sCount ["fields"] fc fdc) :
    FnOk P w K mg base CX 5 f fd ["self", "name", "fields", "owner"] (spInit C) := by
  have GN : FnOk P w K mg base CX 1 fn fdn ["thing"] spNameD := ok_nameD DN.fn T
  have GF : FnOk P w K mg base CX 4 ff fdf ["things"] spFields := ok_fields hC T DF.fn DN DU DP
  have GC : FnOk P w K mg base CX 1 fc fdc ["fields"] spCount := ok_count T DC.fn
  refine F.okC scKi (fun vs H Q E h => ?_) (fun cdv A outer s H vs Q E hr h => ?_)
  · obtain ⟨p, dx, vf, vo, n, ds, od, rfl, _⟩ := h
    rfl
  · obtain ⟨p, dx, vf, vo, n, ds, od, rfl, hp, hn1, hn2, hn3, hf, hfb, ho, hob, hc8, k⟩ := h
    have hr1 := hr.mono (show 1 ≤ 4 by decide)
    obtain ⟨tm, hmost⟩ := T.mostS
    refine ⟨_, pss_cons (ps_if (pt_not (pt_val (pe_call GN hr1 rfl DN.at_ DN.fn.kp DN.bind .nil (passC hC) (pa_cons (pv 1) pa_nil)))) pss_never pss_nil)
      (pss_cons (ps_if (pt_not (pt_val (pe_call GF hr rfl DF.at_ DF.fn.kp DF.bind .nil (passC hC) (pa_cons (pv 2) pa_nil)))) pss_never pss_nil)
      (pss_cons (ps_if (PW.pt (pw_and (pt_cmp (pc_notN (pv 3))) (pw_and1 (PW.pt (pw_or (pt_not (pt_val (pe_call GN hr1 rfl DN.at_ DN.fn.kp DN.bind .nil (passC hC) (pa_cons (pv 3) pa_nil)))) (pw_or1 (pt_cmpR op_eq (pv 3) (pv 1) (nomark _)))))))) pss_never pss_nil)
      (pss_cons (ps_if (pt_cmpR op_gt (pe_call GC hr1 rfl DC.at_ DC.fn.kp DC.bind .nil (passC hC) (pa_cons (pv 2) pa_nil)) (pe_glob (v := .int 8) rfl hmost ⟨_, rfl⟩) (nomark _)) pss_never pss_nil)
      (pss_cons (ps_fld (pv 0) (pv 1) rfl)
      (pss_cons (ps_fld (pv 0) (pe_comp (T := ["field"]) rfl ScOk.auto (pi_list (pv 2)) (fun _ _ _ _ => pg_name (i := 4) (by decide +kernel : (["self", "name", "fields", "owner", "field"] : List Str).Nodup) rfl (Or.inl rfl)) (fun _ _ _ _ => pf_nil)
        (fun _ _ _ _ => pe_tup (pa_cons (pe_ix (r := rIxT K) ix_tup (pv 4) pe_int (fun _ _ => rfl)) (pa_cons (pe_callTy (r := fun xs H Q => ∃ p ys, xs = [.ref p] ∧ (SqL K H p ys ∨ SqT K H p ys) ∧ ∀ l, H l = none → Q (.ref l) (upd H l (.lst ys))) call_list_of rfl T.list PyProof.Rows.boot_list (pa_cons (pe_ix (r := rIxT K) ix_tup (pv 4) pe_int (fun _ _ => rfl)) pa_nil)) pa_nil)))) rfl)
      (pss_one (ps_fld (pv 0) (pv 3) rfl))))))), ?_⟩
    -- the tests
    refine ⟨_, rfl, _, .str n, rfl, .str n hn1 hn2, fun H1 s1 => ⟨_, rfl, ?_⟩⟩
    rw [show nameD (.str n) = true from hn3]
    refine iteF ⟨_, rfl, _, .list ds, rfl, hf.mono s1, fun H2 s2 => ⟨_, rfl, ?_⟩⟩
    rw [hfb]
    have s12 := s1.trans s2
    refine iteF ?_
    have fb : ds.all pairB = true ∧ unlikeB (ds.map firstD) = true := by
      have z : (ds.all pairB && unlikeB (ds.map firstD)) = true := hfb
      rw [Bool.and_eq_true] at z
      exact z
    -- owner
    have sh : vo = V.non ∨ ∃ o, vo = V.str o ∧ o.length ≤ 1000 ∧ PyData.strOk o = true ∧ nameB o = true ∧ ¬ o = n := by
      cases ho with
      | bl b => cases hob
      | int i => cases hob
      | lst _ _ _ _ => cases hob
      | tup _ _ _ _ => cases hob
      | non => exact .inl rfl
      | str o o1 o2 =>
        have z : (nameB o && !decide (o = n)) = true := hob
        rw [Bool.and_eq_true] at z
        exact .inr ⟨o, rfl, o1, o2, z.1, by simpa using z.2⟩
    refine' k_both (H1 := H) _ (fun k2 => _)
    rotate_left 2
    · rcases sh with e | ⟨o, e, o1, o2, e1, e2⟩
      · refine ⟨_, rfl, _, rfl, ?_⟩
        rw [decide_eq_true e]
        exact iteF (iteF (k2 H2 s12))
      · refine ⟨_, rfl, _, rfl, ?_⟩
        rw [decide_eq_false (show ¬ vo = V.non by rw [e]; intro z; cases z)]
        refine iteT ?_
        refine ⟨_, rfl, vo, .str o, rfl, (by rw [e]; exact .str o o1 o2), fun H3 s3 => ⟨_, rfl, ?_⟩⟩
        rw [show nameD (.str o) = true from e1]
        refine iteF ⟨_, rfl, _, rfl, (by rw [e]; rfl), _, rfl, ?_⟩
        rw [decide_eq_false (show ¬ vo = V.str n by rw [e]; intro z; injection z with z; exact e2 z)]
        exact iteF (k2 H3 (s12.trans s3))
    · intro H3 s3
      refine ⟨_, rfl, _, ds, rfl, hf.mono s3, fb.1, _, _, rfl, rfl, _, rfl, ?_⟩
      refine ite2 (fun h => absurd (of_decide_eq_true h) (by omega)) (fun _ => ?_)
      -- self.name = name
      refine ⟨_, rfl, _, rfl, p, C, dx, [], rfl, s3 _ _ hp, KC.cl, KC.nN, (by show 0 < 1000; decide), ?_⟩
      have fr : ∀ (H' : Hp) (o' : HO), (∃ fs, H' p = some (.ins C dx fs)) → ∀ (a : Addr) (o : HO), Any a → isSeq o → H' a = some o → Any a ∧ (upd H' p o') a = some o := by
        rintro H' o' ⟨fs, e⟩ a o _ hs q
        refine ⟨trivial, ?_⟩
        rw [upd_ne]
        · exact q
        · rintro rfl
          rw [e] at q
          cases q
          exact hs
      have hf4 : Has Any (upd H3 p (.ins C dx (putF "name" (.str n) []))) vf (.list ds) := (hf.mono s3).frameS (fr _ _ ⟨_, s3 _ _ hp⟩)
      obtain ⟨a, xs, rfl, _, ha, hz, hx⟩ := hf4.list_inv
      have hp4 : (upd H3 p (.ins C dx (putF "name" (.str n) []))) p = some (.ins C dx (putF "name" (.str n) [])) := upd_same
      have k4 : ∀ b o, H b = some o → b ≠ p → (upd H3 p (.ins C dx (putF "name" (.str n) []))) b = some o := fun b o e hb => by rw [upd_ne hb]; exact s3 _ _ e
      have n4 : ∀ b, (upd H3 p (.ins C dx (putF "name" (.str n) []))) b = none → H b = none := fun b e => by
        cases q : H b with
        | none => rfl
        | some o =>
          by_cases hb : b = p
          · subst hb
            rw [hp4] at e
            cases e
          · rw [k4 b o q hb] at e
            cases e
      generalize upd H3 p (.ins C dx (putF "name" (.str n) [])) = H4 at ha hx hp4 k4 n4 ⊢
      refine ⟨_, rfl, a, rfl, ⟨xs, SqL.of ha⟩, comp_list (xs := xs) (fun i ys H' => Same H4 H' ∧ HasAll (fun a => H a = none) H' ys (ds.take i)) ⟨Same.refl _, .nil⟩ (fun i ys H' q => SqL.of (q.1 _ _ ha)) (fun i ys H' hi q => ?_) ?_ ?_⟩
      · have := q.2.length
        have := List.length_take_le i ds
        have := small1000 hz
        have := hx.length
        omega
      · rintro i x ys H' hi ⟨s5, hy⟩ N hN
        obtain ⟨d, hd', hv⟩ := hx.get hi
        obtain ⟨b, x0, y0, nd, l, vs, zs, rfl, _, hb, rfl, hnm, rfl, _, hl, hzl, hvs, _, hun⟩ := pair_inv hv (all_get fb.1 hd')
        have hnn : nameD nd = true := by
          have z := List.all_eq_true.mp (unlike_all fb.2) nd (List.mem_map.mpr ⟨_, List.mem_of_getElem? hd', rfl⟩)
          exact z
        refine pick ?_
        refine ⟨_, rfl, b, _, _, x0, rfl, rfl, SqT.of (s5 _ _ hb), rfl, _, rfl, b, _, _, _, rfl, rfl, SqT.of (s5 _ _ hb), rfl, l, zs, rfl, .inl (SqL.of (s5 _ _ hl)), fun l2 hl2 => ⟨by show 2 ≤ sizeLine; decide, fun t ht => hN _ _ ⟨?_, ?_⟩⟩⟩
        · exact (s5.trans (Same.new hl2)).trans (Same.new ht)
        · rw [List.take_add_one, hd']
          have s6 : Same H' (upd (upd H' l2 (.lst zs)) t (.tup [x0, .ref l2])) := (Same.new hl2).trans (Same.new ht)
          refine (hy.mono s6).snoc (.tup ?_ upd_same (by show 2 ≤ 1000; decide) (.cons (name_any hnm hnn) (.cons (.lst ?_ ?_ hzl (names_any hvs (unlike_all hun))) .nil)))
          · exact n4 _ (s5.free ((Same.new (o := .lst zs) hl2).free ht))
          · exact n4 _ (s5.free hl2)
          · exact (Same.new ht) _ _ upd_same
      · rintro ys H' ⟨s5, hy⟩ l hl
        have ll : ys.length ≤ 1000 := by
          have := hy.length
          have := List.length_take_le xs.length ds
          have := hx.length
          omega
        rw [hx.length, List.take_length] at hy
        have hp5 : (upd H' l (.lst ys)) p = some (.ins C dx (putF "name" (.str n) [])) := (Same.new hl) _ _ (s5 _ _ hp4)
        refine ⟨_, rfl, p, C, dx, _, rfl, hp5, KC.cl, KC.nF, (by show 1 < 1000; decide), ?_⟩
        refine ⟨_, rfl, _, rfl, p, C, dx, _, rfl, upd_same, KC.cl, KC.nO, (by have := length_putF "fields" (V.ref l) (putF "name" (V.str n) []); have : (putF "name" (V.str n) []).length = 1 := rfl; omega), ?_⟩
        refine k _ l upd_same ?_ fun b o e hb => ?_
        · have h0 : Has (fun a => H a = none) (upd H' l (.lst ys)) (.ref l) (.list ds) := .lst (n4 _ (s5.free hl)) upd_same ll (hy.mono (Same.new hl))
          refine h0.frame fun b o g q => ⟨g, ?_⟩
          have hb : b ≠ p := fun z => by rw [z, hp] at g; cases g
          rw [upd_ne hb, upd_ne hb]
          exact q
        · rw [upd_ne hb, upd_ne hb]
          exact (Same.new hl) _ _ (s5 _ _ (k4 b o e hb))
end
end My
-- MOD K4B
namespace My
open PySem L2
/-! ### the law's own names: words, turned -/
noncomputable def words : List Str := ["a", "ac", "ab", "b", "box", "boxes", "bo", "zzzzzzzz", "abcdefgh", "of", "kind", "lid", "l", "is", "not", "want", "red", "lids", "wanted"]
noncomputable def lets : List Nat := [97, 98, 99, 100, 101, 102, 103, 104, 105, 106, 107, 108, 109, 110, 111, 112, 113, 114, 115, 116, 117, 118, 119, 120, 121, 122]
theorem letters_eq : letters.cps.toList = lets := by decide +kernel
theorem mem_lets {c : Nat} : c ∈ lets ↔ 97 ≤ c ∧ c ≤ 122 := by
  refine ⟨fun h => (by decide +kernel : ∀ c ∈ lets, 97 ≤ c ∧ c ≤ 122) c h, fun ⟨h1, h2⟩ => ?_⟩
  have := (by decide +kernel : ∀ i < 26, 97 + i ∈ lets) (c - 97) (by omega)
  rwa [Nat.add_sub_cancel' h1] at this
theorem charB_iff {c : Nat} : charB c = true ↔ 97 ≤ c ∧ c ≤ 122 := by
  unfold charB
  rw [letters_eq, decide_eq_true_eq, mem_lets]
theorem words_ok : ∀ x ∈ words, (1 ≤ x.length ∧ x.length ≤ 8) ∧ ∀ c ∈ x.cps.toList, 97 ≤ c ∧ c ≤ 122 := by decide +kernel
theorem words_nodup : words.Nodup := by decide +kernel
noncomputable def rotC (t c : Nat) : Nat := 97 + (c - 97 + t) % 26
noncomputable def rotS (t : Nat) (x : Str) : Str := ⟨(x.cps.toList.map (rotC t)).toArray⟩
theorem rotC_in (t c : Nat) : 97 ≤ rotC t c ∧ rotC t c ≤ 122 := by unfold rotC; omega
theorem rotC_inj {t c d : Nat} (hc : 97 ≤ c ∧ c ≤ 122) (hd : 97 ≤ d ∧ d ≤ 122) (h : rotC t c = rotC t d) : c = d := by unfold rotC at h; omega
theorem rotS_len (t : Nat) (x : Str) : (rotS t x).length = x.length := by
  show ((x.cps.toList.map (rotC t)).toArray).size = x.cps.size
  rw [List.size_toArray, List.length_map, Array.length_toList]
theorem map_inj_on {f : Nat → Nat} : ∀ {l m : List Nat}, (∀ c ∈ l, ∀ d ∈ m, f c = f d → c = d) → l.map f = m.map f → l = m
  | [], [], _, _ => rfl
  | [], _ :: _, _, h => by cases h
  | _ :: _, [], _, h => by cases h
  | a :: l, b :: m, k, h => by
    rw [List.map_cons, List.map_cons] at h
    injection h with h1 h2
    rw [k a List.mem_cons_self b List.mem_cons_self h1, map_inj_on (fun c hc d hd => k c (List.mem_cons_of_mem _ hc) d (List.mem_cons_of_mem _ hd)) h2]
theorem rotS_inj {t : Nat} {x y : Str} (hx : ∀ c ∈ x.cps.toList, 97 ≤ c ∧ c ≤ 122) (hy : ∀ c ∈ y.cps.toList, 97 ≤ c ∧ c ≤ 122) (h : rotS t x = rotS t y) : x = y := by
  unfold rotS at h
  injection h with h
  have h' : x.cps.toList.map (rotC t) = y.cps.toList.map (rotC t) := by simpa using congrArg Array.toList h
  have e := map_inj_on (fun c hc d hd q => rotC_inj (hx c hc) (hy d hd) q) h'
  cases x
  cases y
  exact congrArg Str.mk (Array.toList_inj.mp e)
theorem rotS_name {t : Nat} {x : Str} (h1 : 1 ≤ x.length) (h8 : x.length ≤ 8) : nameB (rotS t x) = true := by
  unfold nameB
  rw [rotS_len, decide_eq_true h1, decide_eq_true h8, Bool.true_and, Bool.true_and, List.all_eq_true]
  intro c hc
  have hc' : c ∈ x.cps.toList.map (rotC t) := by simpa [rotS] using hc
  obtain ⟨d, _, rfl⟩ := List.mem_map.mp hc'
  exact charB_iff.mpr (rotC_in t d)
theorem rotS_ok (t : Nat) (x : Str) : PyData.strOk (rotS t x) = true := by
  unfold PyData.strOk
  rw [Array.all_eq_true']
  intro c hc
  have hc' : c ∈ x.cps.toList.map (rotC t) := by simpa [rotS] using hc
  obtain ⟨d, _, rfl⟩ := List.mem_map.mp hc'
  have := rotC_in t d
  simp only [decide_eq_true_eq]
  omega
theorem mul19 : ∀ s < 19, ∀ d < 19, 0 < s → 0 < d → (s * d) % 19 ≠ 0 := by decide +kernel
theorem place_inj {a s i j : Nat} (hs : 0 < s) (hs' : s < 19) (hi : i < j) (hj : j < 19) (h : (a + s * i) % 19 = (a + s * j) % 19) : False := by
  have e : s * j = s * i + s * (j - i) := by rw [← Nat.mul_add]; congr 1; omega
  refine mul19 s hs' (j - i) (by omega) hs (by omega) ?_
  rw [e] at h
  omega
noncomputable def nm (a s t k : Nat) : Str := rotS t (words[(a + s * k) % 19]?.getD "")
theorem words_get (i : Nat) (h : i < 19) : ∃ x, words[i]? = some x ∧ x ∈ words := by
  have h' : i < words.length := h
  exact ⟨words[i], List.getElem?_eq_getElem h', List.getElem_mem _⟩
theorem nm_ok (a s t k : Nat) : nameB (nm a s t k) = true ∧ PyData.strOk (nm a s t k) = true ∧ (nm a s t k).length ≤ 8 := by
  obtain ⟨x, e, hx⟩ := words_get ((a + s * k) % 19) (Nat.mod_lt _ (by decide))
  unfold nm
  rw [e, Option.getD_some]
  obtain ⟨⟨h1, h8⟩, _⟩ := words_ok x hx
  exact ⟨rotS_name h1 h8, rotS_ok t x, by rw [rotS_len]; exact h8⟩
theorem nm_ne {a s t i j : Nat} (hs : 0 < s) (hs' : s < 19) (hi : i < j) (hj : j < 19) : nm a s t i ≠ nm a s t j := by
  intro h
  obtain ⟨x, e, hx⟩ := words_get ((a + s * i) % 19) (Nat.mod_lt _ (by decide))
  obtain ⟨y, e', hy⟩ := words_get ((a + s * j) % 19) (Nat.mod_lt _ (by decide))
  unfold nm at h
  rw [e, e', Option.getD_some, Option.getD_some] at h
  have q := rotS_inj (words_ok x hx).2 (words_ok y hy).2 h
  subst q
  have z := (List.getElem?_inj (show (a + s * i) % 19 < words.length from Nat.mod_lt _ (by decide)) words_nodup).mp (e.trans e'.symm)
  exact place_inj hs hs' hi hj z
theorem nms_nodup {a s t : Nat} (hs : 0 < s) (hs' : s < 19) : ∀ n, n ≤ 19 → ((List.range n).map (nm a s t)).Nodup
  | 0, _ => List.nodup_nil
  | n + 1, h => by
    rw [List.range_succ, List.map_append]
    refine List.nodup_append.mpr ⟨nms_nodup hs hs' n (by omega), by simp, ?_⟩
    intro x hx y hy
    simp only [List.map_cons, List.map_nil, List.mem_cons, List.not_mem_nil, or_false] at hy
    subst hy
    obtain ⟨i, hi, rfl⟩ := List.mem_map.mp hx
    exact nm_ne hs hs' (List.mem_range.mp hi) (by omega)
theorem index_of : ∀ c ∈ lets, Builtin.Str.occurrences letters ⟨#[c]⟩ 0 letters.length 1 = [c - 97] := by decide +kernel
theorem join1 : ∀ cs : List Nat, Str.join ⟨#[]⟩ (cs.map fun c => (⟨#[c]⟩ : Str)) = ⟨cs.toArray⟩
  | [] => rfl
  | [c] => rfl
  | c :: d :: r => by
    show (⟨#[c]⟩ : Str) ++ ⟨#[]⟩ ++ Str.join ⟨#[]⟩ ((d :: r).map fun c => (⟨#[c]⟩ : Str)) = _
    rw [join1 (d :: r)]
    show (⟨(#[c] ++ #[]) ++ (d :: r).toArray⟩ : Str) = _
    congr 1
    apply Array.toList_inj.mp
    simp
theorem joinOk1 {cs : List Nat} (h : cs.length ≤ 1000) : PySem.JoinOk (⟨#[]⟩ : Str) (cs.map fun c => (⟨#[c]⟩ : Str)) = true := by
  have key : ∀ (l : List Nat) (n : Nat), (l.map fun c => (⟨#[c]⟩ : Str)).foldl (fun a x => a + x.length + (⟨#[]⟩ : Str).length) n = n + l.length := by
    intro l
    induction l with
    | nil => intro n; rfl
    | cons c r ih =>
      intro n
      rw [List.map_cons, List.foldl_cons, ih, List.length_cons]
      show n + 1 + 0 + r.length = _
      omega
  unfold PySem.JoinOk
  rw [List.foldl_toArray, key]
  have := small1000 h
  unfold Builtin.Str.tooLong
  simp
  omega
theorem comp_charsM {x : Str} {k : Nat} {σ : St} {H : Hp} {g : TG} {tt : TT} {te : TE} {Q : VK} (f : Nat → V) (hz : x.length ≤ sizeLine)
    (hs : ∀ c (Ry : VK), c ∈ x.cps.toList → Ry (f c) H → ∀ Rn : Hp → Prop, g (.str ⟨#[c]⟩) (σ ++ List.replicate k none) H fun σ2 H2 => tt σ2 H2 fun b H3 => if b = true then te σ2 H3 Ry else Rn H3)
    (hd : ∀ q, H q = none → Q (.ref q) (upd H q (.lst (x.cps.toList.map f)))) : CompGoal (Its x) k σ H g tt te Q := by
  have hlen : x.cps.toList.length = x.length := by rw [Array.length_toList]; rfl
  refine comp_by (J := Its x) (n := x.length) (fun i ys H' => H' = H ∧ ys = (x.cps.toList.take i).map f) ⟨rfl, rfl⟩ (fun i ys H' lt _ => lt) (fun ys H' _ => Nat.le_refl _) (fun i ys H' hi q => ?_) ?_ ?_
  · obtain ⟨_, rfl⟩ := q
    rw [List.length_map]
    have b := List.length_take_le i x.cps.toList
    omega
  · rintro i ys H' v H2 lt ⟨rfl, rfl⟩ ⟨rfl, c, hc, rfl⟩ N hN
    have hc' : x.cps.toList[i]? = some c := by rw [Array.getElem?_toList]; exact hc
    refine hs c _ (List.mem_of_getElem? hc') (hN _ _ ⟨rfl, ?_⟩) _
    rw [List.take_add_one, hc', List.map_append]
    rfl
  · rintro ys H' ⟨rfl, rfl⟩ q hq
    rw [← hlen, List.take_length]
    exact hd q hq
noncomputable def spSign : Sp := fun vs H Q _ => ∃ (c t : Nat), vs = [.str ⟨#[c]⟩, .int t] ∧ (97 ≤ c ∧ c ≤ 122) ∧ Q (.str ⟨#[rotC t c]⟩) H
noncomputable def spNames : Sp := fun vs H Q _ => ∃ (p : Addr) (m k : Int), vs = [.ref p, .int m] ∧ Src H p k ∧ k ≤ 990000 ∧ 0 ≤ m ∧ m ≤ 19 ∧
  ∀ (l : Addr) (ks : List Str) (H' : Hp), (ks.length : Int) = m → ks.Nodup → (∀ x ∈ ks, nameB x = true ∧ PyData.strOk x = true ∧ x.length ≤ 8) → H' l = some (.lst (ks.map V.str)) → H l = none → Src H' p (k + 5) → (∀ b o, H b = some o → b ≠ p → H' b = some o) → Q (.ref l) H'
section
variable {P : Program} {w : World} {K : PySem.W.Frag} {mg : Str → Option Value} {base : Heap} {CX : CXT}
theorem scSg : FnScope ["_law_sign_here", "_law_turn", "_law_small"] ["_law_sign_here", "_law_turn"] (defScope sSign) := ⟨rfl, rfl, rfl, by decide +kernel, rfl, by decide +kernel, by decide +kernel⟩
theorem ok_sign {f : Addr} {fd : FuncData} (F : Fun K "_law_sign" "_law_sign" sSign f fd) : FnOk P w K mg base CX 1 f fd ["_law_sign_here", "_law_turn"] spSign := by
  refine Fun.okC F scSg (fun vs H Q E h => ?_) (fun cdv A outer s H vs Q E hr h => ?_)
  · obtain ⟨c, t, rfl, _⟩ := h
    rfl
  · obtain ⟨c, t, rfl, hc, k⟩ := h
    refine ⟨_, pss_cons (ps_set (i := 2) scSg.nd rfl (Or.inl rfl) pe_str)
      (pss_one (ps_ret (pe_ix ix_str (pv 2) (pe_op op_mod (pe_op op_add (pe_bm PySem.F.plainAttrs_str PySem.F.slot_str_index PySem.F.type_str_index mt_index (pv 2) (pa_cons (pv 0) pa_nil)) (pv 1)) pe_int) (fun _ _ => rfl)))), ?_⟩
    refine ⟨_, rfl, _, rfl, rfl, _, rfl, letters, _, c - 97, [], rfl, rfl, index_of c (mem_lets.mpr hc), ?_⟩
    refine ⟨_, rfl, _, _, rfl, rfl, _, _, rfl, rfl, (by show (0 : Int) < 26; decide), ?_⟩
    have hi : (c - 97 + t) % 26 < 26 := Nat.mod_lt _ (by decide)
    have e : lets[(c - 97 + t) % 26]? = some (rotC t c) := by
      have key : ∀ i < 26, lets[i]? = some (97 + i) := by decide +kernel
      exact key _ hi
    refine ⟨letters, _, rotC t c, rfl, rfl, Nat.le_of_lt (small1000 (by decide +kernel)), ?_, k⟩
    have e2 : (((c - 97 : Nat) : Int) + (t : Int)) % 26 = (((c - 97 + t) % 26 : Nat) : Int) := by omega
    show atI letters.cps.toList ((((c - 97 : Nat) : Int) + (t : Int)) % 26) = some (rotC t c)
    rw [e2, letters_eq]
    exact atI_nat e
end
end My
-- MOD K4C
namespace L2.W
open PySem My
section
variable {P : Program} {w : World} {K : PySem.W.Frag} {mg : Str → Option Value} {base : Heap} {CX : CXT}
theorem scNm : FnScope ["_law_source", "_law_many", "_law_words", "_law_start", "_law_step", "_law_turn", "_law_some"] ["_law_source", "_law_many"] (defScope sNames) := ⟨rfl, rfl, rfl, by decide +kernel, rfl, by decide +kernel, by decide +kernel⟩
set_option maxHeartbeats 4000000 in
theorem ok_names {f fm fn fs : Addr} {fd fdm fdn fds : FuncData} (hC : Calm CX) (T : Tops K mg) (F : Fun K "_law_names" "_law_names" sNames f fd) (DM : Def K mg "_law_mixed" sMixed ["_law_cell", "_law_k"] fm fdm)
    (DN : Def K mg "_law_next" sNext ["_law_source", "_law_many"] fn fdn) (DS : Def K mg "_law_sign" sSign ["_law_sign_here", "_law_turn"] fs fds) : FnOk P w K mg base CX 3 f fd ["_law_source", "_law_many"] spNames := by
  have GN : FnOk P w K mg base CX 2 fn fdn ["_law_source", "_law_many"] spNext := ok_next hC DN.fn DM
  have GS : FnOk P w K mg base CX 1 fs fds ["_law_sign_here", "_law_turn"] spSign := ok_sign DS.fn
  refine Fun.okC F scNm (fun vs H Q E h => ?_) (fun cdv A outer s H vs Q E hr h => ?_)
  · obtain ⟨p, m, k, rfl, _⟩ := h
    rfl
  · obtain ⟨p, m, k, rfl, S0, hk, m0, m1, q⟩ := h
    have nd := scNm.nd
    have hr1 := hr.mono (show 1 ≤ 2 by decide)
    refine ⟨_, pss_cons (ps_set (i := 2) nd rfl (Or.inr rfl) (pe_lst (pa_consts (vs := [.str "a", .str "ac", .str "ab", .str "b", .str "box", .str "boxes", .str "bo", .str "zzzzzzzz", .str "abcdefgh", .str "of"]) (by decide +kernel))))
      (pss_cons (ps_set (i := 2) nd rfl (Or.inr rfl) (pe_op op_cat (pv 2) (pe_lst (pa_consts (vs := [.str "kind", .str "lid", .str "l", .str "is", .str "not", .str "want", .str "red", .str "lids", .str "wanted"]) (by decide +kernel)))))
      (pss_cons (ps_set (i := 3) nd rfl (Or.inr rfl) (pe_call GN hr rfl DN.at_ DN.fn.kp DN.bind .nil (passC hC) (pa_cons (pv 0) (pa_cons pe_int pa_nil))))
      (pss_cons (ps_set (i := 4) nd rfl (Or.inr rfl) (pe_op op_add pe_int (pe_call GN hr rfl DN.at_ DN.fn.kp DN.bind .nil (passC hC) (pa_cons (pv 0) (pa_cons pe_int pa_nil)))))
      (pss_cons (ps_set (i := 5) nd rfl (Or.inr rfl) (pe_ix ix_list (pe_lst (pa_cons pe_int (pa_cons (pe_call GN hr rfl DN.at_ DN.fn.kp DN.bind .nil (passC hC) (pa_cons (pv 0) (pa_cons pe_int pa_nil))) pa_nil))) (pe_call GN hr rfl DN.at_ DN.fn.kp DN.bind .nil (passC hC) (pa_cons (pv 0) (pa_cons pe_int pa_nil))) (fun _ _ => rfl)))
      (pss_cons (ps_setComp (T := ["_law_k"]) (i := 6) rfl ScOk.auto (pi_range1 rfl T.range (pa_cons (pv 1) pa_nil)) (fun _ _ _ _ => pg_name (i := 7) (by decide +kernel : (["_law_source", "_law_many", "_law_words", "_law_start", "_law_step", "_law_turn", "_law_some", "_law_k"] : List Str).Nodup) rfl (Or.inl rfl)) (fun _ _ _ _ => pf_nil)
        (fun _ _ _ _ => pe_ix (r := rIxL K) ix_list (pv 2) (pe_op op_mod (pe_op op_add (pv 3) (pe_op op_mul (pv 4) (pv 7))) pe_int) (fun _ _ => rfl)) nd rfl rfl rfl)
      (pss_one (ps_ret (pe_comp (T := ["_law_word"]) rfl ScOk.auto (pi_list (pv 6)) (fun _ _ _ _ => pg_name (i := 7) (by decide +kernel : (["_law_source", "_law_many", "_law_words", "_law_start", "_law_step", "_law_turn", "_law_some", "_law_word"] : List Str).Nodup) rfl (Or.inl rfl)) (fun _ _ _ _ => pf_nil)
        (fun _ _ _ _ => pe_bmK rfl PySem.F.plainAttrs_str PySem.F.slot_str_join PySem.F.type_str_join (mt_join (K := K) rfl) pe_str (pa_cons (pe_comp (T := ["_law_sign_here"]) rfl ScOk.auto (pi_str (pv 7)) (fun _ _ _ _ => pg_name (i := 8) (by decide +kernel : (["_law_source", "_law_many", "_law_words", "_law_start", "_law_step", "_law_turn", "_law_some", "_law_word", "_law_sign_here"] : List Str).Nodup) rfl (Or.inl rfl)) (fun _ _ _ _ => pf_nil)
          (fun _ _ _ _ => pe_call GS hr1 rfl DS.at_ DS.fn.kp DS.bind .nil (passC hC) (pa_cons (pv 8) (pa_cons (pv 5) pa_nil)))) pa_nil)))))))))), ?_⟩
    have small : ∀ n : Nat, n ≤ 1000 → n ≤ sizeLine := fun n h => Nat.le_of_lt (small1000 h)
    have src : ∀ {H1 H2 : Hp} {j : Int}, Src H1 p j → (∀ o, H1 p = some o → H2 p = some o) → Src H2 p j := fun ⟨a, c, i, e, r⟩ h => ⟨a, c, i, h _ e, r⟩
    have hp0 : ∀ b, H b = none → b ≠ p := fun b hb => by obtain ⟨a, c, j, e, _⟩ := S0; exact (ne_of_none e hb).symm
    -- the words
    refine ⟨small _ (by simp), fun w1 h1 => ?_⟩
    refine ⟨_, rfl, small _ (by simp), fun w2 h2 => ⟨w1, w2, _, _, rfl, rfl, (Same.new h2) _ _ upd_same, upd_same, small _ (by simp), fun w3 h3 => ?_⟩⟩
    have hw3 : (upd (upd (upd H w1 (.lst [.str "a", .str "ac", .str "ab", .str "b", .str "box", .str "boxes", .str "bo", .str "zzzzzzzz", .str "abcdefgh", .str "of"])) w2 (.lst [.str "kind", .str "lid", .str "l", .str "is", .str "not", .str "want", .str "red", .str "lids", .str "wanted"])) w3 (.lst ([.str "a", .str "ac", .str "ab", .str "b", .str "box", .str "boxes", .str "bo", .str "zzzzzzzz", .str "abcdefgh", .str "of"] ++ [.str "kind", .str "lid", .str "l", .str "is", .str "not", .str "want", .str "red", .str "lids", .str "wanted"]))) w3 = some (.lst (words.map V.str)) := upd_same
    have sH : Same H (upd (upd (upd H w1 (.lst [.str "a", .str "ac", .str "ab", .str "b", .str "box", .str "boxes", .str "bo", .str "zzzzzzzz", .str "abcdefgh", .str "of"])) w2 (.lst [.str "kind", .str "lid", .str "l", .str "is", .str "not", .str "want", .str "red", .str "lids", .str "wanted"])) w3 (.lst ([.str "a", .str "ac", .str "ab", .str "b", .str "box", .str "boxes", .str "bo", .str "zzzzzzzz", .str "abcdefgh", .str "of"] ++ [.str "kind", .str "lid", .str "l", .str "is", .str "not", .str "want", .str "red", .str "lids", .str "wanted"]))) := ((Same.new h1).trans (Same.new h2)).trans (Same.new h3)
    have fw3 : H w3 = none := ((Same.new h1).trans (Same.new h2)).free h3
    generalize upd (upd (upd H w1 (.lst [.str "a", .str "ac", .str "ab", .str "b", .str "box", .str "boxes", .str "bo", .str "zzzzzzzz", .str "abcdefgh", .str "of"])) w2 (.lst [.str "kind", .str "lid", .str "l", .str "is", .str "not", .str "want", .str "red", .str "lids", .str "wanted"])) w3 (.lst ([.str "a", .str "ac", .str "ab", .str "b", .str "box", .str "boxes", .str "bo", .str "zzzzzzzz", .str "abcdefgh", .str "of"] ++ [.str "kind", .str "lid", .str "l", .str "is", .str "not", .str "want", .str "red", .str "lids", .str "wanted"])) = G0 at *
    have S1 : Src G0 p k := src S0 fun o e => sH _ _ e
    have np3 : w3 ≠ p := hp0 _ fw3
    -- start, step, turn
    refine ⟨_, rfl, p, _, k, rfl, S1, by omega, by decide, by decide, fun a G1 a0 a1 S2 k1 => ?_⟩
    refine ⟨_, rfl, p, _, _, rfl, S2, by omega, by decide, by decide, fun b G2 b0 b1 S3 k2 => ⟨_, _, rfl, rfl, ?_⟩⟩
    refine ⟨_, rfl, p, _, _, rfl, S3, by omega, by decide, by decide, fun c G3 c0 c1 S4 k3 => ⟨small _ (by simp), fun q1 hq1 => ?_⟩⟩
    have nq : q1 ≠ p := by obtain ⟨_, _, _, e, _⟩ := S4; exact (ne_of_none e hq1).symm
    have S5 : Src (upd G3 q1 (.lst [.int 0, .int c])) p (k + 1 + 1 + 1) := src S4 fun o e => (Same.new hq1) _ _ e
    refine ⟨_, rfl, p, _, _, rfl, S5, by omega, by decide, by decide, fun d G4 d0 d1 S6 k4 => ?_⟩
    have hq4 : G4 q1 = some (.lst [.int 0, .int c]) := by rw [k4 q1 nq]; exact upd_same
    obtain ⟨t, ht⟩ : ∃ t : Nat, atI [V.int 0, V.int c] d = some (.int (t : Int)) := by
      rcases (show d = 0 ∨ d = 1 by omega) with rfl | rfl
      · exact ⟨0, rfl⟩
      · exact ⟨c.toNat, by rw [show ((c.toNat : Nat) : Int) = c by omega]; rfl⟩
    refine ⟨q1, _, _, _, rfl, rfl, SqL.of hq4, ht, ?_⟩
    have fr : ∀ b o, G0 b = some o → b ≠ p → G4 b = some o := fun b o e hb => by
      rw [k4 b hb]
      refine (Same.new hq1) _ _ ?_
      rw [k3 b hb, k2 b hb, k1 b hb]
      exact e
    have hw4 := fr _ _ hw3 np3
    obtain ⟨a', rfl⟩ : ∃ n : Nat, a = n := ⟨a.toNat, by omega⟩
    obtain ⟨b', rfl⟩ : ∃ n : Nat, b = n := ⟨b.toNat, by omega⟩
    obtain ⟨m', rfl⟩ : ∃ n : Nat, m = n := ⟨m.toNat, by omega⟩
    have hb19 : 0 < 1 + b' ∧ 1 + b' < 19 := by omega
    -- the chosen words
    refine ⟨_, rfl, (m' : Int), rfl, by omega, by omega, ?_⟩
    rw [Int.toNat_natCast]
    refine comp_range (lo := 0) (n := m') (fun i ys H' => H' = G4 ∧ ys = (List.range i).map fun j => V.str (words[(a' + (1 + b') * j) % 19]?.getD "")) ⟨rfl, rfl⟩ (fun i ys H' hi z => ?_) ?_ ?_
    · rw [z.2, List.length_map, List.length_range]
      exact small _ (by omega)
    · rintro i ys H' hi ⟨rfl, rfl⟩ N hN
      refine pick ?_
      refine ⟨_, rfl, _, rfl, _, rfl, _, rfl, _, _, rfl, rfl, .inl ⟨by omega, by omega⟩, _, _, rfl, rfl, _, _, rfl, rfl, (by show (0 : Int) < 19; decide), ?_⟩
      obtain ⟨x, ex, _⟩ := words_get ((a' + (1 + b') * i) % 19) (Nat.mod_lt _ (by decide))
      have e1 : ((a' : Int) + (1 + (b' : Int)) * (0 + (i : Int))) % 19 = (((a' + (1 + b') * i) % 19 : Nat) : Int) := by
        rw [Int.zero_add]
        push_cast
        rfl
      refine ⟨w3, words.map V.str, _, .str x, rfl, rfl, SqL.of hw4, ?_, hN _ _ ⟨rfl, ?_⟩⟩
      · show atI (words.map V.str) (((a' : Int) + (1 + (b' : Int)) * (0 + (i : Int))) % 19) = some (.str x)
        rw [e1]
        refine atI_nat ?_
        rw [List.getElem?_map, ex]
        rfl
      · rw [List.range_succ, List.map_append]
        show _ ++ [V.str x] = _ ++ [V.str (words[(a' + (1 + b') * i) % 19]?.getD "")]
        rw [ex]
        rfl
    · rintro ys H' ⟨rfl, rfl⟩ l1 hl1
      -- turned
      have sL := Same.new (o := .lst ((List.range m').map fun j => V.str (words[(a' + (1 + b') * j) % 19]?.getD ""))) hl1
      have hl2 : (upd H' l1 (.lst ((List.range m').map fun j => V.str (words[(a' + (1 + b') * j) % 19]?.getD "")))) l1 = some (.lst ((List.range m').map fun j => V.str (words[(a' + (1 + b') * j) % 19]?.getD ""))) := upd_same
      generalize upd H' l1 (.lst ((List.range m').map fun j => V.str (words[(a' + (1 + b') * j) % 19]?.getD ""))) = G5 at sL hl2 ⊢
      refine ⟨_, rfl, l1, rfl, ⟨_, SqL.of hl2⟩, comp_list (xs := (List.range m').map fun j => V.str (words[(a' + (1 + b') * j) % 19]?.getD "")) (fun i ys H' => Same G5 H' ∧ ys = (List.range i).map fun j => V.str (nm a' (1 + b') t j)) ⟨Same.refl _, rfl⟩ (fun i ys H' z => SqL.of (z.1 _ _ hl2)) (fun i ys H' hi z => ?_) ?_ ?_⟩
      · rw [z.2, List.length_map, List.length_range]
        rw [List.length_map, List.length_range] at hi
        exact small _ (by omega)
      · rintro i x ys H6 hi ⟨s6, rfl⟩ N hN
        have hi' : i < m' := by have := (List.getElem?_eq_some_iff.mp hi).1; simpa using this
        have ex : x = V.str (words[(a' + (1 + b') * i) % 19]?.getD "") := by
          rw [List.getElem?_map, List.getElem?_range hi'] at hi
          exact (Option.some.inj hi).symm
        subst ex
        obtain ⟨x, ex, hxw⟩ := words_get ((a' + (1 + b') * i) % 19) (Nat.mod_lt _ (by decide))
        have en : nm a' (1 + b') t i = rotS t x := by unfold nm; rw [ex]; rfl
        rw [ex, Option.getD_some]
        have okx := words_ok x hxw
        refine pick ?_
        refine ⟨rfl, ?_⟩
        refine ⟨_, rfl, x, rfl, comp_charsM (fun c => .str ⟨#[rotC t c]⟩) (small _ (by omega)) (fun c Ry hc hR Rn => ?_) (fun q2 hq2 => ?_)⟩
        · refine pick ?_
          exact ⟨_, rfl, _, rfl, c, t, rfl, okx.2 c hc, hR⟩
        · have el : x.cps.toList.map (fun c => V.str ⟨#[rotC t c]⟩) = ((x.cps.toList.map (rotC t)).map fun c => (⟨#[c]⟩ : Str)).map V.str := by
            rw [List.map_map, List.map_map]
            rfl
          have ee : ("" : Str) = ⟨#[]⟩ := by decide +kernel
          refine ⟨⟨#[]⟩, q2, (x.cps.toList.map (rotC t)).map fun c => (⟨#[c]⟩ : Str), congrArg V.str ee, rfl, SqL.of (by rw [upd_same, el]), joinOk1 ?_, ?_⟩
          · rw [List.length_map, Array.length_toList]
            have : x.cps.size = x.length := rfl
            omega
          · have ej : Txt.join ⟨#[]⟩ ((x.cps.toList.map (rotC t)).map fun c => (⟨#[c]⟩ : Str)) = rotS t x := by
              show Builtin.Str.glued _ _ = _
              rw [PySem.StrLaws.glued_eq_join, join1]
              rfl
            rw [ej, ← en]
            refine hN _ _ ⟨s6.trans (Same.new hq2), ?_⟩
            rw [List.range_succ, List.map_append]
            rfl
      · rintro ys H6 ⟨s6, rfl⟩ l hl
        rw [List.length_map, List.length_range]
        have sN := Same.new (o := .lst ((List.range m').map fun j => V.str (nm a' (1 + b') t j))) hl
        have nl : l ≠ p := by
          obtain ⟨_, _, _, e, _⟩ := S6
          exact (ne_of_none (s6 _ _ (sL _ _ e)) hl).symm
        refine q l ((List.range m').map (nm a' (1 + b') t)) _ (by rw [List.length_map, List.length_range]) (nms_nodup hb19.1 hb19.2 m' (by omega)) (fun x hx => ?_) (by rw [upd_same, List.map_map]; rfl) ?_ ?_ fun b o e hb => ?_
        · obtain ⟨j, _, rfl⟩ := List.mem_map.mp hx
          exact nm_ok _ _ _ _
        · cases z : H l with
          | none => rfl
          | some o =>
            have := s6 _ _ (sL _ _ (fr _ _ (sH _ _ z) nl))
            rw [this] at hl
            cases hl
        · exact (src S6 fun o e => sN _ _ (s6 _ _ (sL _ _ e))).mono (by omega)
        · exact sN _ _ (s6 _ _ (sL _ _ (fr _ _ (sH _ _ e) hb)))
end
end L2.W
-- MOD K4D
namespace L2.W
open PySem My
/-! ### the law's own fields -/
noncomputable def nameOk (x : Str) : Prop := nameB x = true ∧ PyData.strOk x = true ∧ x.length ≤ 8
structure ValsOk (vs : List Str) : Prop where
  ne : 0 < vs.length
  le : vs.length ≤ 8
  nd : vs.Nodup
  ok : ∀ x ∈ vs, nameOk x
noncomputable def fieldD (f : Str × List Str) : PyData := .tuple [.str f.1, .list (f.2.map .str)]
noncomputable def manyOf (fs : List (Str × List Str)) : Nat := fs.foldl (fun m f => m * f.2.length) 1
structure FieldsOk (fs : List (Str × List Str)) : Prop where
  le : fs.length ≤ 3
  nd : (fs.map (·.1)).Nodup
  ok : ∀ f ∈ fs, nameOk f.1 ∧ ValsOk f.2
  many : manyOf fs ≤ 8
noncomputable def szss : List (List Nat) := [[], [1], [2], [3], [8], [2, 2], [2, 3], [4, 2], [2, 2, 2], [1, 2, 4], [1, 1, 1], [5], [7, 1]]
noncomputable def tables : List (List V) := szss.map fun z => z.map fun (n : Nat) => V.int (n : Int)
theorem names_has {G : Addr → Prop} {H : Hp} : ∀ {ks : List Str}, (∀ x ∈ ks, nameOk x) → HasAll G H (ks.map V.str) (ks.map .str)
  | [], _ => .nil
  | k :: r, h => .cons (.str k (by have := (h k List.mem_cons_self).2.2; omega) (h k List.mem_cons_self).2.1) (names_has fun x hx => h x (List.mem_cons_of_mem _ hx))
end L2.W
-- MOD K4E
namespace L2.W
open PySem My
/-! ### first_state -/
noncomputable def KindAt (C : Addr) (G : Addr → Prop) (H : Hp) (p : Addr) (fs : List (Str × List Str)) : Prop := ∃ dx n l o, H p = some (.ins C dx (kflds n (.ref l) o)) ∧ Has G H (.ref l) (.list (fs.map fieldD))
theorem field_inv {G : Addr → Prop} {H : Hp} {v : V} {f : Str × List Str} (h : Has G H v (fieldD f)) : ∃ a l, v = .ref a ∧ H a = some (.tup [.str f.1, .ref l]) ∧ H l = some (.lst (f.2.map V.str)) := by
  obtain ⟨a, xs, rfl, _, ha, _, hx⟩ := h.tup_inv
  cases hx with
  | cons h1 hx =>
    cases hx with
    | cons h2 hx =>
      cases hx
      obtain ⟨rfl, _⟩ := h1.str_inv
      obtain ⟨l, ys, rfl, _, hl, _, hy⟩ := h2.list_inv
      refine ⟨a, l, rfl, ha, ?_⟩
      rw [hl]
      congr 2
      clear hl h2 ha h
      generalize f.2 = vs at hy
      induction vs generalizing ys with
      | nil => cases hy; rfl
      | cons x r ih =>
        cases hy with
        | cons q t =>
          obtain ⟨rfl, _⟩ := q.str_inv
          rw [List.map_cons, ih _ (by simp at *; omega) t]
end L2.W
-- MOD K4G
namespace L2.W
open PySem My
/-! ### states -/
noncomputable def stepS (acc : List (List Str)) (vs : List Str) : List (List Str) := acc.flatMap fun st => vs.map fun v => st ++ [v]
noncomputable def allS (fs : List (Str × List Str)) : List (List Str) := fs.foldl (fun acc f => stepS acc f.2) [[]]
noncomputable def tupD (st : List Str) : PyData := .tuple (st.map .str)
noncomputable def statesD (fs : List (Str × List Str)) : PyData := .list ((allS fs).map tupD)
theorem stepS_len (acc : List (List Str)) (vs : List Str) : (stepS acc vs).length = acc.length * vs.length := by
  unfold stepS
  induction acc with
  | nil => simp
  | cons a r ih => rw [List.flatMap_cons, List.length_append, ih, List.length_map, List.length_cons, Nat.succ_mul, Nat.add_comm]
theorem allS_snoc (fs : List (Str × List Str)) (f : Str × List Str) : allS (fs ++ [f]) = stepS (allS fs) f.2 := by
  unfold allS
  rw [List.foldl_append]
  rfl
theorem many_snoc (fs : List (Str × List Str)) (f : Str × List Str) : manyOf (fs ++ [f]) = manyOf fs * f.2.length := by
  unfold manyOf
  rw [List.foldl_append]
  rfl
theorem allS_len (fs : List (Str × List Str)) : (allS fs).length = manyOf fs := by
  suffices h : ∀ (n : Nat), (allS (fs.take n)).length = manyOf (fs.take n) by
    have := h fs.length
    rwa [List.take_length] at this
  intro n
  induction n with
  | zero => rfl
  | succ n ih =>
    cases e : fs[n]? with
    | none => rw [List.take_add_one, e]; simpa using ih
    | some f =>
      have e2 : fs.take (n + 1) = fs.take n ++ [f] := by rw [List.take_add_one, e]; rfl
      rw [e2, allS_snoc, many_snoc, stepS_len, ih]
theorem allS_in {fs : List (Str × List Str)} (ok : ∀ f ∈ fs, ∀ x ∈ f.2, nameOk x) : ∀ st ∈ allS fs, st.length = fs.length ∧ ∀ x ∈ st, nameOk x := by
  suffices h : ∀ (n : Nat), ∀ st ∈ allS (fs.take n), st.length = (fs.take n).length ∧ ∀ x ∈ st, nameOk x by
    have := h fs.length
    rwa [List.take_length] at this
  intro n
  induction n with
  | zero =>
    intro st h
    have : st = [] := by simpa [allS] using h
    subst this
    exact ⟨rfl, fun x h => by simp at h⟩
  | succ n ih =>
    cases e : fs[n]? with
    | none =>
      have e2 : fs.take (n + 1) = fs.take n := by rw [List.take_add_one, e]; simp
      rw [e2]
      exact ih
    | some f =>
      have e2 : fs.take (n + 1) = fs.take n ++ [f] := by rw [List.take_add_one, e]; rfl
      rw [e2, allS_snoc]
      intro st h
      unfold stepS at h
      obtain ⟨a, ha, h⟩ := List.mem_flatMap.mp h
      obtain ⟨v, hv, rfl⟩ := List.mem_map.mp h
      obtain ⟨h1, h2⟩ := ih a ha
      refine ⟨by rw [List.length_append, List.length_append, h1]; rfl, fun x hx => ?_⟩
      rcases List.mem_append.mp hx with hx | hx
      · exact h2 x hx
      · have : x = v := by simpa using hx
        subst this
        exact ok f (List.mem_of_getElem? e) _ hv
theorem many_le (fs : List (Str × List Str)) (h : ∀ f ∈ fs, 0 < f.2.length) (n : Nat) : manyOf (fs.take n) ≤ manyOf fs := by
  have key : ∀ (l : List (Str × List Str)) (m : Nat), (∀ f ∈ l, 0 < f.2.length) → m ≤ l.foldl (fun m f => m * f.2.length) m := by
    intro l
    induction l with
    | nil => intro m _; exact Nat.le_refl _
    | cons f r ih =>
      intro m h
      rw [List.foldl_cons]
      exact Nat.le_trans (Nat.le_mul_of_pos_right _ (h f List.mem_cons_self)) (ih _ fun g hg => h g (List.mem_cons_of_mem _ hg))
  have e : manyOf fs = (fs.drop n).foldl (fun m f => m * f.2.length) (manyOf (fs.take n)) := by
    unfold manyOf
    rw [← List.foldl_append, List.take_append_drop]
  rw [e]
  exact key _ _ fun f hf => h f (List.mem_of_mem_drop hf)
theorem tup_has {G : Addr → Prop} {H : Hp} {a : Addr} {st : List Str} (g : G a) (h : H a = some (.tup (st.map V.str))) (hl : st.length ≤ 1000) (ok : ∀ x ∈ st, nameOk x) : Has G H (.ref a) (tupD st) :=
  .tup g h (by rw [List.length_map]; exact hl) (names_has ok)
theorem strs_inv {G : Addr → Prop} {H : Hp} : ∀ {xs : List V} {ks : List Str}, HasAll G H xs (ks.map .str) → xs = ks.map V.str
  | _, [], .nil => rfl
  | _, k :: r, .cons h t => by
    obtain ⟨rfl, _⟩ := h.str_inv
    rw [List.map_cons, strs_inv t]
theorem tup_inv2 {G : Addr → Prop} {H : Hp} {v : V} {st : List Str} (h : Has G H v (tupD st)) : ∃ a, v = .ref a ∧ G a ∧ H a = some (.tup (st.map V.str)) := by
  obtain ⟨a, xs, rfl, g, ha, _, hx⟩ := h.tup_inv
  rw [strs_inv hx] at ha
  exact ⟨a, rfl, g, ha⟩
noncomputable def spStates (C : Addr) : Sp := fun vs H Q _ => ∃ (p : Addr) (fs : List (Str × List Str)), vs = [.ref p] ∧ KindAt C Any H p fs ∧ FieldsOk fs ∧
  ∀ (l : Addr) (H' : Hp), Same H H' → H l = none → Has (fun _ => True) H' (.ref l) (statesD fs) → Q (.ref l) H'
noncomputable def listD (f : Str × List Str) : PyData := .list (f.2.map .str)
noncomputable def spPicks : Sp := fun vs H Q _ => ∃ (l : Addr) (fs : List (Str × List Str)), vs = [.ref l] ∧ Has Any H (.ref l) (.list (fs.map listD)) ∧ fs.length ≤ 3 ∧ (∀ f ∈ fs, 0 < f.2.length ∧ ∀ x ∈ f.2, nameOk x) ∧ manyOf fs ≤ 8 ∧
  ∀ (l : Addr) (H' : Hp), Same H H' → H l = none → Has (fun _ => True) H' (.ref l) (statesD fs) → Q (.ref l) H'
section
variable {P : Program} {w : World} {K : PySem.W.Frag} {mg : Str → Option Value} {base : Heap} {CX : CXT}
theorem scPk : FnScope ["lists", "found", "things", "longer", "ahead"] ["lists"] (defScope sPicks) := ⟨rfl, rfl, rfl, by decide +kernel, rfl, by decide +kernel, by decide +kernel⟩
set_option maxHeartbeats 1000000 in
theorem ok_picks {f : Addr} {fd : FuncData} (F : Fun K "all_picks" "all_picks" sPicks f fd) : FnOk P w K mg base CX 1 f fd ["lists"] spPicks := by
  refine Fun.okC F scPk (fun vs H Q E h => ?_) (fun cdv A outer s H vs Q E hr h => ?_)
  · obtain ⟨l, fs, rfl, _⟩ := h
    rfl
  · obtain ⟨l, fs, rfl, hf, le3, okf, many, q⟩ := h
    have nd := scPk.nd
    refine ⟨_, pss_cons (ps_set (i := 1) nd rfl (Or.inl rfl) (pe_lst (pa_cons (pe_tup pa_nil) pa_nil)))
      (pss_cons (ps_for PassesOwn.never rfl (pi_list (pv 0)) (pg_name (i := 2) nd rfl (Or.inl rfl))
        (pss_cons (ps_set (i := 3) nd rfl (Or.inl rfl) (pe_lst pa_nil))
        (pss_cons (ps_for PassesOwn.never rfl (pi_list (pv 1)) (pg_name (i := 4) nd rfl (Or.inr rfl))
          (pss_one (ps_expr (pe_bm PySem.F.plainAttrs_list PySem.F.slot_list_extend PySem.F.type_list_extend mt_extend (pv 3) (pa_cons (pe_comp (T := ["thing"]) rfl ScOk.auto (pi_list (pv 2)) (fun _ _ _ _ => pg_name (i := 5) (by decide +kernel : (["lists", "found", "things", "longer", "ahead", "thing"] : List Str).Nodup) rfl (Or.inl rfl)) (fun _ _ _ _ => pf_nil)
            (fun _ _ _ _ => pe_op (op_cat2 (K := K) rfl) (pv 4) (pe_tup (pa_cons (pv 5) pa_nil)))) pa_nil)))))
        (pss_one (ps_set (i := 1) nd rfl (Or.inl rfl) (pv 3))))))
      (pss_one (ps_ret (pv 1)))), ?_⟩
    have small : ∀ n : Nat, n ≤ 1000 → n ≤ sizeLine := fun n h => Nat.le_of_lt (small1000 h)
    have okv : ∀ f ∈ fs, ∀ x ∈ f.2, nameOk x := fun f hf => (okf f hf).2
    have pos : ∀ f ∈ fs, 0 < f.2.length := fun f hf => (okf f hf).1
    obtain ⟨a, xs, e, _, ha, hz, hx⟩ := hf.list_inv
    cases e
    refine ⟨by show 0 ≤ sizeLine; exact Nat.zero_le _, fun t0 ht0 => ⟨by show 1 ≤ sizeLine; exact small 1 (by decide), fun f0 hf0 => ?_⟩⟩
    have s0 : Same H (upd (upd H t0 (.tup [])) f0 (.lst [.ref t0])) := (Same.new ht0).trans (Same.new hf0)
    have h0 : Has (fun _ => True) (upd (upd H t0 (.tup [])) f0 (.lst [.ref t0])) (.ref f0) (statesD (fs.take 0)) := .lst trivial upd_same (by show 1 ≤ 1000; decide) (.cons (.tup trivial ((Same.new hf0) _ _ upd_same) (by show 0 ≤ 1000; decide) .nil) .nil)
    have n0 : H f0 = none := (Same.new ht0).free hf0
    generalize upd (upd H t0 (.tup [])) f0 (.lst [.ref t0]) = H0 at s0 h0 ⊢
    refine ⟨_, rfl, l, rfl, ⟨xs, SqL.of (s0 _ _ ha)⟩, for_list (K := K) (a := l) (xs := xs)
      (fun i σ H2 => ∃ u v x fl, σ = [some (.ref l), some (.ref fl), u, v, x] ∧ Same H H2 ∧ H fl = none ∧ Has (fun _ => True) H2 (.ref fl) (statesD (fs.take i))) ⟨none, none, none, f0, rfl, s0, n0, h0⟩ (fun i σ H2 _ ⟨_, _, _, _, _, s2, _⟩ => SqL.of (s2 _ _ ha)) ?_ ?_⟩
    · rintro i x σ H2 hi ⟨u, v, xo, fl, rfl, s2, nf, hst⟩
      obtain ⟨d, hd, hv⟩ := hx.get hi
      rw [List.getElem?_map] at hd
      cases ef : fs[i]? with
      | none => rw [ef] at hd; cases hd
      | some f =>
        rw [ef] at hd
        cases hd
        have efs : fs.take (i + 1) = fs.take i ++ [f] := by rw [List.take_add_one, ef]; rfl
        have hmf := List.mem_of_getElem? ef
        obtain ⟨l2, vs2, rfl, _, hl2, _, hv2⟩ := hv.list_inv
        rw [strs_inv hv2] at hl2
        refine ⟨by show 0 ≤ sizeLine; exact Nat.zero_le _, fun lo hlo => ?_⟩
        have s3 : Same H2 (upd H2 lo (.lst [])) := Same.new hlo
        have e3 : (upd H2 lo (.lst [])) lo = some (.lst []) := upd_same
        obtain ⟨c, ss, ec, _, hc, hcz, hss⟩ := hst.list_inv
        cases ec
        have lss : ss.length = manyOf (fs.take i) := by rw [hss.length, List.length_map, allS_len]
        have mle : manyOf (fs.take i) ≤ 8 := Nat.le_trans (many_le fs pos i) many
        have mle2 : manyOf (fs.take i) * f.2.length ≤ 8 := by rw [← many_snoc, ← efs]; exact Nat.le_trans (many_le fs pos (i + 1)) many
        refine ⟨_, rfl, fl, rfl, ⟨ss, SqL.of (s3 _ _ hc)⟩, for_list (K := K) (a := fl) (xs := ss)
          (fun j σ H4 => ∃ x' zs, σ = [some (.ref l), some (.ref fl), some (.ref l2), some (.ref lo), x'] ∧ Same H2 H4 ∧ H4 lo = some (.lst zs) ∧ HasAll (fun a => a ≠ lo) H4 zs ((stepS ((allS (fs.take i)).take j) f.2).map tupD)) ⟨_, [], rfl, s3, e3, .nil⟩ (fun j σ H4 _ ⟨_, _, _, s4, _⟩ => SqL.of (s4 _ _ hc)) ?_ ?_⟩
        · rintro j y σ H4 hj ⟨x', zs, rfl, s4, h4, hz4⟩
          obtain ⟨d, hd, hy⟩ := hss.get hj
          rw [List.getElem?_map] at hd
          cases es : (allS (fs.take i))[j]? with
          | none => rw [es] at hd; cases hd
          | some st =>
            rw [es] at hd
            cases hd
            obtain ⟨ya, rfl, _, hya⟩ := tup_inv2 hy
            obtain ⟨stl, sto⟩ := allS_in (fs := fs.take i) (fun f hf => okv f (List.mem_of_mem_take hf)) st (List.mem_of_getElem? es)
            have stl3 : st.length ≤ 3 := by
              have := List.length_take_le' i fs
              have := le3
              omega
            have jlt : j < manyOf (fs.take i) := by
              have := (List.getElem?_eq_some_iff.mp es).1
              rwa [allS_len] at this
            have lzs : zs.length = j * f.2.length := by
              rw [hz4.length, List.length_map, stepS_len, List.length_take, allS_len, Nat.min_eq_left (Nat.le_of_lt jlt)]
            have lz8 : zs.length + f.2.length ≤ 8 := by
              have h1 : (j + 1) * f.2.length ≤ manyOf (fs.take i) * f.2.length := Nat.mul_le_mul_right _ jlt
              rw [Nat.succ_mul] at h1
              omega
            refine ⟨_, rfl, .inl ⟨rfl, zs, SqL.of h4⟩, _, rfl, l2, rfl, ⟨_, SqL.of (s4 _ _ (s2 _ _ hl2))⟩, comp_list (xs := f.2.map V.str)
              (fun k ys H5 => Same H4 H5 ∧ HasAll (fun a => a ≠ lo) H5 ys ((f.2.take k).map fun v => tupD (st ++ [v]))) ⟨Same.refl _, .nil⟩ (fun k ys H5 z => SqL.of (z.1 _ _ (s4 _ _ (s2 _ _ hl2)))) (fun k ys H5 hk z => ?_) ?_ ?_⟩
            · have := z.2.length
              rw [List.length_map] at this
              have := List.length_take_le' k f.2
              exact small _ (by omega)
            · rintro k w ys H5 hk ⟨s5, hys⟩ N hN
              rw [List.getElem?_map] at hk
              cases ew : f.2[k]? with
              | none => rw [ew] at hk; cases hk
              | some v =>
                rw [ew] at hk
                cases hk
                refine pick ?_
                refine ⟨_, rfl, _, rfl, by show 1 ≤ sizeLine; exact small 1 (by decide), fun t1 ht1 => ?_⟩
                refine cat2_by (K := K) (xs := st.map V.str) (ys := [.str v]) ((Same.new ht1) _ _ (s5 _ _ (s4 _ _ hya))) upd_same (by rw [List.length_map]; exact small _ (by simp; omega)) fun p' H6 s6 h6 => hN _ _ ⟨(s5.trans (Same.new ht1)).trans s6, ?_⟩
                rw [List.take_add_one, ew, List.map_append]
                have hlo6 : H6 lo = some (.lst zs) := s6 _ _ ((Same.new ht1) _ _ (s5 _ _ h4))
                refine HasAll.snoc (hys.mono ((Same.new ht1).trans s6)) (tup_has (fun z => ?_) (by rw [h6, List.map_append]; rfl) (by simp; omega) fun x hx => ?_)
                · rw [z, hlo6] at h6
                  cases h6
                · rcases List.mem_append.mp hx with hx | hx
                  · exact sto x hx
                  · have : x = v := by simpa using hx
                    subst this
                    exact okv f hmf _ (List.mem_of_getElem? ew)
            · rintro ys H5 ⟨s5, hys⟩ r hr'
              rw [List.length_map, List.take_length] at hys
              have lys : ys.length = f.2.length := by rw [hys.length, List.length_map]
              have nr : r ≠ lo := (ne_of_none (s5 _ _ h4) hr').symm
              refine ⟨lo, r, zs, ys, rfl, rfl, (Same.new hr') _ _ (s5 _ _ h4), upd_same, small _ (by omega), ⟨_, zs ++ ys, rfl, fun b' o' e' => ?_, upd_same, ?_⟩⟩
              · rw [upd_ne (ne_of_none e' hlo)]
                exact (Same.new hr') _ _ (s5 _ _ (s4 _ _ e'))
              · have eq : stepS ((allS (fs.take i)).take (j + 1)) f.2 = stepS ((allS (fs.take i)).take j) f.2 ++ f.2.map fun v => st ++ [v] := by
                  rw [List.take_add_one, es]
                  unfold stepS
                  rw [List.flatMap_append]
                  simp
                rw [eq, List.map_append, List.map_map]
                refine HasAll.append ((hz4.mono (s5.trans (Same.new hr'))).frame fun b' o' g' e' => ⟨g', by rw [upd_ne g']; exact e'⟩) ((hys.mono (Same.new hr')).frame fun b' o' g' e' => ⟨g', by rw [upd_ne g']; exact e'⟩)
        · rintro σ H4 ⟨x', zs, rfl, s4, h4, hz4⟩
          have eq : (allS (fs.take i)).take ss.length = allS (fs.take i) := by rw [lss, ← allS_len, List.take_length]
          rw [eq, ← allS_snoc, ← efs] at hz4
          have lzs : zs.length ≤ 1000 := by
            rw [hz4.length, List.length_map, allS_len]
            have := many_le fs pos (i + 1)
            have := many
            omega
          exact ⟨_, rfl, _, _, _, lo, rfl, s2.trans s4, s2.free hlo, .lst trivial h4 lzs hz4.any⟩
    · rintro σ H2 ⟨u, v, xo, fl, rfl, s2, nf, hst⟩
      have e : xs.length = fs.length := by rw [hx.length, List.length_map]
      rw [e, List.take_length] at hst
      exact ⟨_, rfl, q fl H2 s2 nf hst⟩
theorem scSt : FnScope ["kind"] ["kind"] (defScope sStates) := ⟨rfl, rfl, rfl, by decide +kernel, rfl, by decide +kernel, by decide +kernel⟩
theorem ok_states {f fA C fI : Addr} {fd fdA : FuncData} (hC : Calm CX) (KC : KCls K mg C fI) (F : Fun K "states" "states" sStates f fd) (DA : Def K mg "all_picks" sPicks ["lists"] fA fdA) : FnOk P w K mg base CX 2 f fd ["kind"] (spStates C) := by
  have GA : FnOk P w K mg base CX 1 fA fdA ["lists"] spPicks := ok_picks DA.fn
  refine Fun.okC F scSt (fun vs H Q E h => ?_) (fun cdv A outer s H vs Q E hr h => ?_)
  · obtain ⟨p, fs, rfl, _⟩ := h
    rfl
  · obtain ⟨p, fs, rfl, ⟨dx, n, l, o, hp, hf⟩, ok, q⟩ := h
    refine ⟨_, pss_one (ps_ret (pe_call GA hr rfl DA.at_ DA.fn.kp DA.bind .nil (passC hC) (pa_cons (pe_comp (T := ["field"]) rfl ScOk.auto (pi_list (pe_fld (pv 0) rfl)) (fun _ _ _ _ => pg_name (i := 1) (by decide +kernel : (["kind", "field"] : List Str).Nodup) rfl (Or.inl rfl)) (fun _ _ _ _ => pf_nil) (fun _ _ _ _ => pe_ix (r := rIxT K) ix_tup (pv 1) pe_int (fun _ _ => rfl))) pa_nil))), ?_⟩
    have small : ∀ n : Nat, n ≤ 1000 → n ≤ sizeLine := fun n h => Nat.le_of_lt (small1000 h)
    obtain ⟨a, xs, e, _, ha, hz, hx⟩ := hf.list_inv
    cases e
    have xl : xs.length = fs.length := by rw [hx.length, List.length_map]
    have le3 := ok.le
    refine ⟨_, rfl, p, C, dx, _, _, rfl, hp, KC.cl, KC.nF, kf_fields _ _ _, l, rfl, ⟨xs, SqL.of ha⟩, comp_list (xs := xs) (fun i ys H' => H = H' ∧ HasAll Any H ys ((fs.take i).map listD)) ⟨rfl, .nil⟩ (fun i ys H' z => by rw [← z.1]; exact SqL.of ha) (fun i ys H' hi z => ?_) ?_ ?_⟩
    · have := z.2.length
      rw [List.length_map] at this
      have := List.length_take_le' i fs
      exact small _ (by omega)
    · rintro i x ys H' hi ⟨rfl, hys⟩ N hN
      obtain ⟨d, hd, hv⟩ := hx.get hi
      rw [List.getElem?_map] at hd
      cases ef : fs[i]? with
      | none => rw [ef] at hd; cases hd
      | some f =>
        rw [ef] at hd
        cases hd
        obtain ⟨b, l2, rfl, hb, hl2⟩ := field_inv hv
        have okf := (ok.ok f (List.mem_of_getElem? ef)).2
        refine pick ⟨_, rfl, b, _, ((1 : Nat) : Int), _, rfl, rfl, SqT.of hb, atI_nat rfl, hN _ _ ⟨rfl, ?_⟩⟩
        rw [List.take_add_one, ef, List.map_append]
        exact HasAll.snoc hys (.lst trivial hl2 (by rw [List.length_map]; have := okf.le; omega) (names_has okf.ok))
    · rintro ys H' ⟨rfl, hys⟩ lc hlc
      rw [xl, List.take_length] at hys
      have s1 : Same H (upd H lc (.lst ys)) := Same.new hlc
      refine ⟨lc, fs, rfl, .lst trivial upd_same (by rw [hys.length, List.length_map]; omega) (hys.mono s1), le3, fun f hf => ⟨(ok.ok f hf).2.ne, (ok.ok f hf).2.ok⟩, ok.many, fun l' H' s2 n2 h2 => q l' H' (s1.trans s2) (s1.free n2) h2⟩
end
end L2.W
-- MOD K4H
namespace L2.W
open PySem My
/-! ### a kind of too many states -/
theorem FunD.okX {P : Program} {w : World} {K : PySem.W.Frag} {mg : Str → Option Value} {base : Heap} {CX : CXT} {x qual : Str} {st : Stmt} {dV : Value} {f : Addr} {fd : FuncData} {N ps : List Str} {k : Nat} {sp : Sp} (F : FunD K x qual st dV f fd) (S : FnScope N ps (defScope st)) (len : ∀ vs H Q E, sp vs H Q E → vs.length = ps.length)
    (hbody : ∀ (cdv : Value) (A : Around) (outer : List Env) (s : Shared) (H : Hp) (vs : List V) (Q : VK) (E : XK), Room k (A.deeper (PyProof.Rows.envOfC qual (defScope st) s.heap.objs.size f cdv)) → sp vs H Q E →
      ∃ t, PSs (cxOf CX P w K mg base N qual (defScope st) f cdv A outer s H E) (defBody st) t ∧ t { nx := fun _ H' => Q .non H', rt := Q } (start N vs) H) : FnOk P w K mg base CX (k + 1) f fd ps sp := by
  obtain ⟨oc, od, kV, doc, pm, an, cdv, ct, osl, rfl, lk, hcd⟩ := F.ex
  exact fn_of lk hcd S len fun A outer s H vs Q E hr hsp => hbody cdv A outer s H vs Q E hr hsp
noncomputable def spMany (CT : Addr) : Sp := fun vs H _ E => ∃ (p : Addr) (vf : V) (n o : Str) (ds : List PyData), vs = [.ref p, .str n, vf, .str o] ∧ n.length ≤ 1000 ∧ PyData.strOk n = true ∧ nameB n = true ∧
  Has Any H vf (.list ds) ∧ fieldsB (.list ds) = true ∧ o.length ≤ 1000 ∧ PyData.strOk o = true ∧ nameB o = true ∧ o ≠ n ∧ 8 < countD ds ∧
  ∀ (e : Addr) (H' : Hp), H e = none → H' e = some (XO CT e) → Same H H' → E (.ref CT) (some e) H'
section
variable {P : Program} {w : World} {K : PySem.W.Frag} {mg : Str → Option Value} {base : Heap}
theorem ok_many {f CT ff fc fp fu fn : Addr} {fd fdf fdc fdp fdu fdn : FuncData} {dV : Value} (T : Tops K mg) (F : FunD K "__init__" "Kind.__init__" sInit dV f fd) (xt : mg "TooMany" = some (.ref CT)) (xc : PySem.W.excIn K CT [.type "ValueError", .type "Exception", .type "BaseException", .type "object"] "ValueError.__new__" = true) (DN : Def K mg "is_name" sIsName ["thing"] fn fdn)
    (DU : Def K mg "are_unlike_names" sUnlike ["things"] fu fdu) (DP : Def K mg "is_pair_with_values" sPair ["thing"] fp fdp) (DF : Def K mg "are_fields" sFields ["things"] ff fdf) (DC : Def K mg "count_states" sCount ["fields"] fc fdc) :
    FnOk P w K mg base (CXM P w) 5 f fd ["self", "name", "fields", "owner"] (spMany CT) := by
  have hC : Calm (CXM P w) := calmM
  have GN : FnOk P w K mg base (CXM P w) 1 fn fdn ["thing"] spNameD := ok_nameD DN.fn T
  have GF : FnOk P w K mg base (CXM P w) 4 ff fdf ["things"] spFields := ok_fields hC T DF.fn DN DU DP
  have GC : FnOk P w K mg base (CXM P w) 1 fc fdc ["fields"] spCount := ok_count T DC.fn
  refine FunD.okX F scKi (fun vs H Q E h => ?_) (fun cdv A outer s H vs Q E hr h => ?_)
  · obtain ⟨p, vf, n, o, ds, rfl, _⟩ := h
    rfl
  · obtain ⟨p, vf, n, o, ds, rfl, hn1, hn2, hn3, hf, hfb, o1, o2, o3, on, hc8, k⟩ := h
    have hr1 := hr.mono (show 1 ≤ 4 by decide)
    obtain ⟨tm, hmost⟩ := T.mostS
    refine ⟨_, pss_cons (ps_if (pt_not (pt_val (pe_call GN hr1 rfl DN.at_ DN.fn.kp DN.bind .nil (passC hC) (pa_cons (pv 1) pa_nil)))) pss_never pss_nil)
      (pss_cons (ps_if (pt_not (pt_val (pe_call GF hr rfl DF.at_ DF.fn.kp DF.bind .nil (passC hC) (pa_cons (pv 2) pa_nil)))) pss_never pss_nil)
      (pss_cons (ps_if (PW.pt (pw_and (pt_cmp (pc_notN (pv 3))) (pw_and1 (PW.pt (pw_or (pt_not (pt_val (pe_call GN hr1 rfl DN.at_ DN.fn.kp DN.bind .nil (passC hC) (pa_cons (pv 3) pa_nil)))) (pw_or1 (pt_cmpR op_eq (pv 3) (pv 1) (nomark _)))))))) pss_never pss_nil)
      (pss_cons (ps_if (pt_cmpR op_gt (pe_call GC hr1 rfl DC.at_ DC.fn.kp DC.bind .nil (passC hC) (pa_cons (pv 2) pa_nil)) (pe_glob (v := .int 8) rfl hmost ⟨_, rfl⟩) (nomark _)) (pss_one (ps_raise (C := CT) (W := fun _ e H' => E (.ref CT) (some e) H') xc rfl xt rfl (pa_cons pe_str pa_nil) (fun pins σ H s e I he fr w => xe_new I he (.inl fr) w))) pss_nil)
      pss_never))), ?_⟩
    refine ⟨_, rfl, _, .str n, rfl, .str n hn1 hn2, fun H1 s1 => ⟨_, rfl, ?_⟩⟩
    rw [show nameD (.str n) = true from hn3]
    refine iteF ⟨_, rfl, _, .list ds, rfl, hf.mono s1, fun H2 s2 => ⟨_, rfl, ?_⟩⟩
    rw [hfb]
    have s12 := s1.trans s2
    have fb : ds.all pairB = true ∧ unlikeB (ds.map firstD) = true := by
      have z : (ds.all pairB && unlikeB (ds.map firstD)) = true := hfb
      rw [Bool.and_eq_true] at z
      exact z
    refine iteF ⟨_, rfl, _, rfl, ?_⟩
    rw [decide_eq_false (show ¬ V.str o = V.non from fun z => nomatch z)]
    refine iteT ⟨_, rfl, _, .str o, rfl, .str o o1 o2, fun H3 s3 => ⟨_, rfl, ?_⟩⟩
    rw [show nameD (.str o) = true from o3]
    refine iteF ⟨_, rfl, _, rfl, rfl, _, rfl, ?_⟩
    rw [decide_eq_false (show ¬ V.str o = V.str n by intro z; injection z with z; exact on z)]
    have s13 := s12.trans s3
    refine iteF ⟨_, rfl, _, ds, rfl, hf.mono s13, fb.1, _, _, rfl, rfl, _, rfl, ?_⟩
    refine ite2 (fun _ => ⟨Nat.le_of_lt (small1000 (by decide)), fun e he => k e _ (s13.free he) upd_same (s13.trans (Same.new he))⟩) (fun h => absurd (decide_eq_true hc8) h)
end
end L2.W
-- MOD K4I
namespace L2.W
open PySem My
/-! ### fields of many values -/
structure FieldsW (fs : List (Str × List Str)) : Prop where
  le : fs.length ≤ 3
  nd : (fs.map (·.1)).Nodup
  ok : ∀ f ∈ fs, nameOk f.1 ∧ 0 < f.2.length ∧ f.2.length ≤ 12 ∧ f.2.Nodup ∧ ∀ x ∈ f.2, nameOk x
theorem strsOf_map : ∀ ks : List Str, strsOf (ks.map PyData.str) = ks
  | [] => rfl
  | k :: r => by
    show k :: strsOf (r.map PyData.str) = k :: r
    rw [strsOf_map r]
theorem unlike_of {ks : List Str} (h : ∀ x ∈ ks, nameB x = true) (nd : ks.Nodup) : unlikeB (ks.map PyData.str) = true := by
  unfold unlikeB
  rw [strsOf_map, decide_eq_true nd, Bool.and_true, List.all_eq_true]
  intro d hd
  obtain ⟨x, hx, rfl⟩ := List.mem_map.mp hd
  exact h x hx
theorem fields_w {fs : List (Str × List Str)} (ok : FieldsW fs) : fieldsB (.list (fs.map fieldD)) = true ∧ countD (fs.map fieldD) = (manyOf fs : Nat) := by
  constructor
  · show ((fs.map fieldD).all pairB && unlikeB ((fs.map fieldD).map firstD)) = true
    have e1 : (fs.map fieldD).all pairB = true := by
      rw [List.all_eq_true]
      intro d hd
      obtain ⟨f, hf, rfl⟩ := List.mem_map.mp hd
      obtain ⟨_, ne, _, nd, o⟩ := ok.ok f hf
      show (decide (0 < (f.2.map PyData.str).length) && unlikeB (f.2.map PyData.str)) = true
      rw [List.length_map, decide_eq_true ne, unlike_of (fun x hx => (o x hx).1) nd]
      rfl
    have e2 : (fs.map fieldD).map firstD = (fs.map (·.1)).map PyData.str := by
      rw [List.map_map, List.map_map]
      rfl
    rw [e1, e2, unlike_of _ ok.nd]
    · rfl
    · intro x hx
      obtain ⟨f, hf, rfl⟩ := List.mem_map.mp hx
      exact (ok.ok f hf).1.1
  · have key : ∀ (l : List (Str × List Str)) (m : Nat), (l.map fieldD).foldl (fun (m : Int) d => m * (sizeD d : Int)) (m : Int) = ((l.foldl (fun m f => m * f.2.length) m : Nat) : Int) := by
      intro l
      induction l with
      | nil => intro m; rfl
      | cons f r ih =>
        intro m
        rw [List.map_cons, List.foldl_cons, List.foldl_cons, ← ih]
        have : sizeD (fieldD f) = f.2.length := by
          show (f.2.map PyData.str).length = _
          rw [List.length_map]
        rw [this, Int.natCast_mul]
    exact key fs 1
theorem dvd_many {f : Str × List Str} : ∀ {fs : List (Str × List Str)} {m : Nat}, f ∈ fs → f.2.length ∣ fs.foldl (fun m f => m * f.2.length) m
  | g :: r, m, h => by
    rw [List.foldl_cons]
    rcases List.mem_cons.mp h with rfl | h
    · have : ∀ (l : List (Str × List Str)) (m d : Nat), d ∣ m → d ∣ l.foldl (fun m f => m * f.2.length) m := by
        intro l
        induction l with
        | nil => intro m d h; exact h
        | cons x l ih => intro m d h; exact ih _ _ (Nat.dvd_mul_right_of_dvd h _)
      exact this r _ _ (Nat.dvd_mul_left _ _)
    · exact dvd_many h
theorem many_pos {fs : List (Str × List Str)} (h : ∀ f ∈ fs, 0 < f.2.length) : 0 < manyOf fs := by
  have : ∀ (l : List (Str × List Str)) (m : Nat), (∀ f ∈ l, 0 < f.2.length) → 0 < m → 0 < l.foldl (fun m f => m * f.2.length) m := by
    intro l
    induction l with
    | nil => intro m _ h; exact h
    | cons x l ih => intro m h hm; exact ih _ (fun f hf => h f (List.mem_cons_of_mem _ hf)) (Nat.mul_pos hm (h x List.mem_cons_self))
  exact this fs 1 h (by decide)
theorem FieldsW.ok8 {fs : List (Str × List Str)} (w : FieldsW fs) (h : manyOf fs ≤ 8) : FieldsOk fs := by
  refine ⟨w.le, w.nd, fun f hf => ?_, h⟩
  obtain ⟨n, ne, _, nd, o⟩ := w.ok f hf
  have := Nat.le_of_dvd (many_pos fun f hf => (w.ok f hf).2.1) (dvd_many (m := 1) hf)
  exact ⟨n, ne, Nat.le_trans this h, nd, o⟩
theorem stepS_nodup {acc : List (List Str)} {vs : List Str} (ha : acc.Nodup) (hv : vs.Nodup) : (stepS acc vs).Nodup := by
  unfold stepS List.Nodup
  rw [List.pairwise_flatMap]
  refine ⟨fun st _ => ?_, ?_⟩
  · rw [List.pairwise_map]
    refine hv.imp fun {a b} ne z => ne ?_
    have := List.append_cancel_left z
    injection this
  · refine ha.imp fun {a b} ne x hx y hy z => ?_
    obtain ⟨v, _, rfl⟩ := List.mem_map.mp hx
    obtain ⟨v', _, rfl⟩ := List.mem_map.mp hy
    exact ne (List.append_inj_left' z rfl)
theorem allS_nodup {fs : List (Str × List Str)} (h : ∀ f ∈ fs, f.2.Nodup) : (allS fs).Nodup := by
  suffices k : ∀ n, (allS (fs.take n)).Nodup by
    have := k fs.length
    rwa [List.take_length] at this
  intro n
  induction n with
  | zero => simp [allS]
  | succ n ih =>
    cases e : fs[n]? with
    | none => rw [List.take_add_one, e]; simpa using ih
    | some f =>
      have e2 : fs.take (n + 1) = fs.take n ++ [f] := by rw [List.take_add_one, e]; rfl
      rw [e2, allS_snoc]
      exact stepS_nodup ih (h f (List.mem_of_getElem? e))
end L2.W
-- MOD K4J
namespace L2.W
open PySem My
/-! ### the law -/
theorem cut_ints (ns : List Int) (lo hi : Option Int) : ∃ ms : List Int, cutV (ns.map V.int) lo hi = ms.map V.int ∧ ms.length ≤ ns.length := by
  unfold cutV
  rw [← List.map_drop, ← List.map_take]
  exact ⟨_, rfl, by rw [List.length_take, List.length_drop]; omega⟩
theorem tups_refs {G : Addr → Prop} {H : Hp} : ∀ {ss : List V} {sts : List (List Str)}, HasAll G H ss (sts.map tupD) → ∃ ts : List Addr, ss = ts.map V.ref ∧ ts.length = sts.length ∧ ∀ (i : Nat) (t : Addr) (k : List Str), ts[i]? = some t → sts[i]? = some k → H t = some (.tup (k.map V.str))
  | _, [], .nil => ⟨[], rfl, rfl, fun i t k h => by simp at h⟩
  | _, st :: r, .cons h hr => by
    obtain ⟨ts, rfl, hl, g⟩ := tups_refs hr
    obtain ⟨t, rfl, _, e⟩ := tup_inv2 h
    refine ⟨t :: ts, rfl, by rw [List.length_cons, List.length_cons, hl], fun i t' k h1 h2 => ?_⟩
    cases i with
    | zero => cases h1; cases h2; exact e
    | succ i => exact g i t' k h1 h2
noncomputable def lst8 : List Str := ["a", "b", "c", "d", "e", "f", "g", "h"]
theorem lst8_ok : ∀ x ∈ lst8, nameOk x := by unfold nameOk; decide +kernel
theorem fields_8 : FieldsW [("b", lst8)] := ⟨by decide, by simp, fun f hf => by
  rw [List.mem_singleton.mp hf]
  exact ⟨by unfold nameOk; decide +kernel, by decide, by decide, by decide +kernel, lst8_ok⟩⟩
structure Refs4 (K : PySem.W.Frag) (mg : Str → Option Value) (CT CR CN : Addr) : Prop where
  at_ : mg "TooMany" = some (.ref CT)
  x : XCls K CT
  rest : mg "RestError" = some (.ref CR)
  no : mg "NoKind" = some (.ref CN)
  ve : mg "ValueError" = none
  exm : PySem.W.exmOne K (.ref CT) (.ref CR) = some true
  one : PySem.W.kitOne K (.ref CT) (.ref CT) = some true
  val : PySem.W.kitOne K (.ref CT) (.type "ValueError") = some true
  oth : PySem.W.kitOne K (.ref CT) (.ref CN) = some false
structure All4 (K : PySem.W.Frag) (mg : Str → Option Value) (fN fU fP fF fC fI C fPk fS CT CR CN fm fd fn fg fa : Addr) (dN dU dP dF dC dI dPk dS dm dd dn dg da : FuncData) (dV : Value) : Prop where
  T : Tops K mg
  N : Def K mg "is_name" sIsName ["thing"] fN dN
  U : Def K mg "are_unlike_names" sUnlike ["things"] fU dU
  P : Def K mg "is_pair_with_values" sPair ["thing"] fP dP
  F : Def K mg "are_fields" sFields ["things"] fF dF
  Ct : Def K mg "count_states" sCount ["fields"] fC dC
  I : FunD K "__init__" "Kind.__init__" sInit dV fI dI
  KC : KCls K mg C fI
  bK : Binds K dI ["self", "name", "fields", "owner"] []
  bK2 : Binds K dI ["self", "name", "fields", "owner"] [.none]
  pk : Def K mg "all_picks" sPicks ["lists"] fPk dPk
  S : Def K mg "states" sStates ["kind"] fS dS
  R : Refs4 K mg CT CR CN
  m : Def K mg "_law_mixed" sMixed ["_law_cell", "_law_k"] fm dm
  d : Def K mg "_law_digits" sDigits ["_law_cell"] fd dd
  n : Def K mg "_law_next" sNext ["_law_source", "_law_many"] fn dn
  g : Def K mg "_law_sign" sSign ["_law_sign_here", "_law_turn"] fg dg
  a : Def K mg "_law_names" sNames ["_law_source", "_law_many"] fa da
noncomputable def spLaw4 (K : PySem.W.Frag) : Sp := fun vs H Q _ => ∃ (a : Addr) (ns : List Int), vs = [.ref a] ∧ SqL K H a (ns.map V.int) ∧ ns.length ≤ 63 ∧ ∀ H', Q (.bl true) H'
section
variable {P : Program} {w : World} {K : PySem.W.Frag} {mg : Str → Option Value} {base : Heap}
theorem scL4 : FnScope ["_law_script", "_law_cell", "_law_source", "_law_many", "_law_fields_here", "_law_name", "_law_size", "_law_word", "_law_got", "e", "_law_right"] ["_law_script"] (defScope sLaw) := ⟨rfl, rfl, rfl, by decide +kernel, rfl, by decide +kernel, by decide +kernel⟩
set_option maxHeartbeats 4000000 in
theorem ok_law4 {f fN fU fP fF fC fI C fPk fS CT CR CN fm fd fn fg fa : Addr} {fdl dN dU dP dF dC dI dPk dS dm dd dn dg da : FuncData} {dV : Value} (F : Fun K "law" "law" sLaw f fdl)
    (A : All4 K mg fN fU fP fF fC fI C fPk fS CT CR CN fm fd fn fg fa dN dU dP dF dC dI dPk dS dm dd dn dg da dV) :
    FnOk P w K mg base (CXM P w) 7 f fdl ["_law_script"] (spLaw4 K) := by
  have T := A.T
  have hC : Calm (CXM P w) := calmM
  have GD : FnOk P w K mg base (CXM P w) 1 fd dd ["_law_cell"] spDigits := ok_digits A.d.fn
  have GN : FnOk P w K mg base (CXM P w) 2 fn dn ["_law_source", "_law_many"] spNext := ok_next hC A.n.fn A.m
  have GA : FnOk P w K mg base (CXM P w) 3 fa da ["_law_source", "_law_many"] spNames := ok_names hC T A.a.fn A.m A.n A.g
  have GS : FnOk P w K mg base (CXM P w) 2 fS dS ["kind"] (spStates C) := ok_states hC A.KC A.S.fn A.pk
  have GK : FnOk P w K mg base (CXM P w) 5 fI dI ["self", "name", "fields", "owner"] (spInit C) := ok_init hC T A.I A.KC A.N A.U A.P A.F A.Ct
  have GM : FnOk P w K mg base (CXM P w) 5 fI dI ["self", "name", "fields", "owner"] (spMany CT) := ok_many T A.I A.R.at_ A.R.x.exc A.N A.U A.P A.F A.Ct
  have GO := GK.or GM
  refine Fun.okC F scL4 (fun vs H Q E h => ?_) (fun cdv Ar outer s H vs Q E hr h => ?_)
  · obtain ⟨a, ns, rfl, _⟩ := h
    rfl
  · obtain ⟨a, ns, rfl, hS, hlen, k⟩ := h
    have hr1 := hr.mono (show 1 ≤ 6 by decide)
    have hr2 := hr.mono (show 2 ≤ 6 by decide)
    have hr3 := hr.mono (show 3 ≤ 6 by decide)
    have nd := scL4.nd
    have dv : Vals [.non] [Value.none] := .cons rfl .nil
    refine ⟨_, pss_cons (ps_for PassesOwn.never rfl (pi_list (pe_slice sl_list (pv 0) po_none (po_some pe_int))) (pg_name (i := 1) nd rfl (Or.inl rfl))
        (pss_cons (ps_set (i := 2) nd rfl (Or.inl rfl) (pe_call GD hr1 rfl A.d.at_ A.d.fn.kp A.d.bind .nil (passC hC) (pa_cons (pv 1) pa_nil)))
        (pss_cons (ps_set (i := 3) nd rfl (Or.inl rfl) pe_int)
        (pss_cons (ps_set (i := 4) nd rfl (Or.inl rfl) (pe_lst pa_nil))
        (pss_cons (ps_for PassesOwn.never rfl (pi_list (pe_call GA hr3 rfl A.a.at_ A.a.fn.kp A.a.bind .nil (passC hC) (pa_cons (pv 2) (pa_cons (pe_call GN hr2 rfl A.n.at_ A.n.fn.kp A.n.bind .nil (passC hC) (pa_cons (pv 2) (pa_cons pe_int pa_nil))) pa_nil)))) (pg_name (i := 5) nd rfl (Or.inl rfl))
          (pss_cons (ps_set (i := 6) nd rfl (Or.inl rfl) (pe_op op_add pe_int (pe_call GN hr2 rfl A.n.at_ A.n.fn.kp A.n.bind .nil (passC hC) (pa_cons (pv 2) (pa_cons (pe_ix ix_list (pe_lst (pa_cons pe_int (pa_cons pe_int (pa_cons pe_int pa_nil)))) (pe_call GN hr2 rfl A.n.at_ A.n.fn.kp A.n.bind .nil (passC hC) (pa_cons (pv 2) (pa_cons pe_int pa_nil))) (fun _ _ => rfl)) pa_nil)))))
          (pss_cons (ps_set (i := 3) nd rfl (Or.inl rfl) (pe_op op_mul (pv 3) (pv 6)))
          (pss_one (ps_expr (pe_bm PySem.F.plainAttrs_list PySem.F.slot_list_append PySem.F.type_list_append mt_append (pv 4) (pa_cons (pe_tup (pa_cons (pv 5) (pa_cons (pe_call GA hr3 rfl A.a.at_ A.a.fn.kp A.a.bind .nil (passC hC) (pa_cons (pv 2) (pa_cons (pv 6) pa_nil))) pa_nil))) pa_nil)))))))
        (pss_cons (ps_set (i := 7) nd rfl (Or.inl rfl) pe_str)
        (pss_cons (ps_set (i := 8) nd rfl (Or.inl rfl) (pe_lst pa_nil))
        (pss_cons (ps_try (i := 9) (B := CR) rfl rfl rfl nd rfl rfl rfl A.R.rest (fun pins W => pss_one (ps_set (i := 8) nd rfl (Or.inl rfl) (pe_call GS hr2 rfl A.S.at_ A.S.fn.kp A.S.bind .nil (pass_try rfl) (pa_cons (pe_make A.KC.mkd GO hr rfl A.KC.mgC A.bK .nil (pass_try rfl) (pa_cons pe_str (pa_cons (pv 4) (pa_cons pe_str pa_nil)))) pa_nil))))
          (fun e => pss_cons (ps_set (i := 10) nd rfl (Or.inl rfl) (pe_and (pe_callB (call_isinstX (K := K) rfl) rfl T.isinst PyProof.Rows.boot_isinstance (pa_cons (pv 9) (pa_cons (pe_glob (v := .ref CT) rfl A.R.at_ rfl) pa_nil)))
              (pe_and (pe_callB (call_isinstX (K := K) rfl) rfl T.isinst PyProof.Rows.boot_isinstance (pa_cons (pv 9) (pa_cons (pe_bltn (v := .ty "ValueError") rfl A.R.ve (by decide +kernel) rfl) pa_nil)))
                (pe_one (pe_not (pe_callB (call_isinstX (K := K) rfl) rfl T.isinst PyProof.Rows.boot_isinstance (pa_cons (pv 9) (pa_cons (pe_glob (v := .ref CN) rfl A.R.no rfl) pa_nil))))))))
            (pss_one (ps_set (i := 7) nd rfl (Or.inl rfl) (pe_ix ix_list (pe_lst (pa_cons pe_str (pa_cons pe_str pa_nil))) (pe_callTy call_int1 rfl T.int PyProof.Rows.boot_int (pa_cons (pv 10) pa_nil)) (fun _ _ => rfl))))))
        (pss_one (ps_if (PW.pt (pw_or (pt_cmpR op_ne (pv 7) (pe_ix ix_list (pe_lst (pa_cons pe_str (pa_cons pe_str pa_nil))) (pe_callTy call_int1 rfl T.int PyProof.Rows.boot_int (pa_cons (pe_cmpR op_gt (pv 3) pe_int (nomark _)) pa_nil)) (fun _ _ => rfl)) (nomark _))
          (pw_or1 (PW.pt (pw_and (pt_cmpR op_eq (pv 7) pe_str (nomark _)) (pw_and1 (PW.pt (pw_or (pt_cmpR op_ne (pe_callB call_len_seq rfl T.len PySem.boot_len (pa_cons (pv 8) pa_nil)) (pv 3) (nomark _))
            (pw_or1 (pt_cmpR op_ne (pe_callB call_len_setN rfl T.len PySem.boot_len (pa_cons (pe_callTy (call_set_tups rfl hr.units) rfl T.set PyProof.Rows.boot_set (pa_cons (pv 8) pa_nil)) pa_nil)) (pv 3) (nomark _))))))))))) (pss_one (ps_ret pe_bl)) pss_nil))))))))))
      (pss_one (ps_ret (pe_cmpR op_eq (pe_callB call_len_seq rfl T.len PySem.boot_len (pa_cons (pe_call GS hr2 rfl A.S.at_ A.S.fn.kp A.S.bind .nil (passC hC) (pa_cons (pe_make A.KC.mkd GK hr rfl A.KC.mgC A.bK2 dv (passC hC) (pa_cons pe_str (pa_cons (pe_lst (pa_cons (pe_tup (pa_cons pe_str (pa_cons (pe_lst (pa_consts (vs := [.str "a", .str "b", .str "c", .str "d", .str "e", .str "f", .str "g", .str "h"]) (by decide +kernel))) pa_nil))) pa_nil)) pa_nil))) pa_nil)) pa_nil)) pe_int (nomark _)))), ?_⟩
    have small : ∀ n : Nat, n ≤ 1000 → n ≤ sizeLine := fun n h => Nat.le_of_lt (small1000 h)
    obtain ⟨ms, ems, hms⟩ := cut_ints ns none (some 30)
    refine ⟨_, rfl, _, rfl, a, _, rfl, hS, fun p hp => ?_⟩
    rw [ems]
    refine ⟨p, rfl, ⟨_, SqL.of upd_same⟩, for_list (K := K) (a := p) (xs := ms.map V.int) (fun i σ H2 => ∃ u1 u2 u3 u4 u5 u6 u7 u8 u9 v1 : Option V, σ = [some (.ref a), u1, u2, u3, u4, u5, u6, u7, u8, u9, v1] ∧ H2 p = some (.lst (ms.map V.int)))
      ⟨none, none, none, none, none, none, none, none, none, none, rfl, upd_same⟩ (fun i σ H2 _ hz => by obtain ⟨_, _, _, _, _, _, _, _, _, _, _, q⟩ := hz; exact SqL.of q) ?_ ?_⟩
    · rintro i y σ H2 hi ⟨u1, u2, u3, u4, u5, u6, u7, u8, u9, v1, rfl, hp2⟩
      obtain ⟨z, rfl⟩ : ∃ z, y = V.int z := by
        rw [List.getElem?_map] at hi
        cases e : ms[i]? with
        | none => rw [e] at hi; cases hi
        | some z => rw [e] at hi; exact ⟨z, (Option.some.inj hi).symm⟩
      refine ⟨_, rfl, z, rfl, fun q H3 hq S3 s3 k3 => ?_⟩
      have pq : p ≠ q := ne_of_none hp2 hq
      have src : ∀ {H1 H2 : Hp} {j : Int}, Src H1 q j → (∀ o, H1 q = some o → H2 q = some o) → Src H2 q j := fun ⟨a, c, i, e, r⟩ h => ⟨a, c, i, h _ e, r⟩
      have nq : ∀ {G : Hp} {j : Int} {b : Addr}, Src G q j → G b = none → b ≠ q := fun ⟨_, _, _, e, _⟩ h => (ne_of_none e h).symm
      refine ⟨Nat.zero_le _, fun l fl => ?_⟩
      have lq := nq S3 fl
      have pl : p ≠ l := ne_of_none (s3 _ _ hp2) fl
      have s4 : Same H3 (upd H3 l (.lst [])) := Same.new fl
      have l4 : (upd H3 l (.lst [])) l = some (.lst []) := upd_same
      generalize upd H3 l (.lst []) = H4 at s4 l4 ⊢
      refine ⟨_, rfl, _, rfl, q, 4, 0, rfl, src S3 fun o e => s4 _ _ e, by decide, by decide, by decide, fun r H5 r0 r1 S5 k5 => ?_⟩
      refine ⟨q, r, _, rfl, S5, by decide, r0, by omega, fun ln ks H6 kl knd kok hln fln S6 k6 => ?_⟩
      have nl : ln ≠ q := nq S5 fln
      have nll : ln ≠ l := by rintro rfl; rw [k5 _ lq, l4] at fln; cases fln
      have l6 : H6 l = some (.lst []) := k6 _ _ (by rw [k5 _ lq]; exact l4) lq
      have p6 : H6 p = some (.lst (ms.map V.int)) := k6 _ _ (by rw [k5 _ pq]; exact s4 _ _ (s3 _ _ hp2)) pq
      refine ⟨ln, rfl, ⟨_, SqL.of hln⟩, for_list (K := K) (a := ln) (xs := ks.map V.str) (fun j σ H' => ∃ (x5 x6 : Option V) (fs : List (Str × List Str)) (xs : List V), σ = [some (.ref a), some (.int z), some (.ref q), some (.int (manyOf fs : Nat)), some (.ref l), x5, x6, u7, u8, u9, v1] ∧ H' p = some (.lst (ms.map V.int)) ∧ H' ln = some (.lst (ks.map V.str)) ∧ H' l = some (.lst xs) ∧ HasAll (fun b => b ≠ q ∧ b ≠ l) H' xs (fs.map fieldD) ∧
          fs.map (·.1) = ks.take j ∧ (∀ f ∈ fs, nameOk f.1 ∧ 0 < f.2.length ∧ f.2.length ≤ 12 ∧ f.2.Nodup ∧ ∀ x ∈ f.2, nameOk x) ∧ Src H' q (10 + 10 * (j : Int)))
        ⟨_, _, [], [], rfl, p6, hln, l6, .nil, rfl, (fun _ h => nomatch h), S6.mono (by omega)⟩ (fun j σ H' _ hz => by obtain ⟨_, _, _, _, _, _, h, _⟩ := hz; exact SqL.of h) ?_ ?_⟩
      · rintro j x σ H' hj ⟨x5, x6, fs, xs, rfl, p7, n7, l7, a7, e7, o7, S7⟩
        rw [List.getElem?_map] at hj
        cases ek : ks[j]? with
        | none => rw [ek] at hj; cases hj
        | some nm =>
          rw [ek] at hj
          cases hj
          have jl : j < 4 := by
            have := (List.getElem?_eq_some_iff.mp ek).1
            omega
          have fl7 : fs.length = j := by
            have := congrArg List.length e7
            rw [List.length_map, List.length_take] at this
            have := (List.getElem?_eq_some_iff.mp ek).1
            omega
          refine ⟨_, rfl, by show 3 ≤ sizeLine; exact small 3 (by decide), fun p8 f8 => ?_⟩
          have q8 := nq S7 f8
          have l8 : p8 ≠ l := Ne.symm (ne_of_none l7 f8)
          have s8 : Same H' (upd H' p8 (.lst [.int 2, .int 4, .int 12])) := Same.new f8
          have h8 : (upd H' p8 (.lst [.int 2, .int 4, .int 12])) p8 = some (.lst [.int 2, .int 4, .int 12]) := upd_same
          generalize upd H' p8 (.lst [.int 2, .int 4, .int 12]) = H8 at s8 h8 ⊢
          refine ⟨_, rfl, q, 3, _, rfl, src S7 fun o e => s8 _ _ e, by omega, by decide, by decide, fun r2 H9 r20 r21 S9 k9 => ?_⟩
          obtain ⟨m, em, m1, m2⟩ : ∃ m : Int, atI [V.int 2, V.int 4, V.int 12] r2 = some (.int m) ∧ 0 < m ∧ m ≤ 12 := by
            have : r2 = 0 ∨ r2 = 1 ∨ r2 = 2 := by omega
            rcases this with rfl | rfl | rfl
            · exact ⟨2, rfl, by decide, by decide⟩
            · exact ⟨4, rfl, by decide, by decide⟩
            · exact ⟨12, rfl, by decide, by decide⟩
          refine ⟨p8, _, r2, _, rfl, rfl, SqL.of (by rw [k9 _ q8]; exact h8), em, q, m, _, rfl, S9, by omega, m1, by omega, fun r3 H10 r30 r31 S10 k10 => ?_⟩
          obtain ⟨sz, esz⟩ : ∃ sz : Nat, 1 + r3 = (sz : Int) := ⟨(1 + r3).toNat, by omega⟩
          refine ⟨_, _, rfl, rfl, ?_⟩
          have f10 : ∀ b o, H' b = some o → b ≠ q → H10 b = some o := fun b o e nb => by rw [k10 b nb, k9 b nb]; exact s8 _ _ e
          dsimp only [gName]
          rw [esz]
          refine ⟨_, rfl, _, rfl, _, _, rfl, rfl, .inr ⟨by omega, by omega⟩, ?_⟩
          have l10 := f10 _ _ l7 lq
          refine ⟨_, rfl, .inl ⟨rfl, _, SqL.of l10⟩, _, rfl, _, rfl, _, rfl, q, (sz : Int), _, rfl, S10, by omega, by omega, by omega, fun ln2 ks2 H11 kl2 knd2 kok2 hln2 fln2 S11 k11 => ?_⟩
          refine ⟨by show 2 ≤ sizeLine; exact small 2 (by decide), fun tp ftp => ?_⟩
          have q12 := nq S11 ftp
          have nq2 := nq S10 fln2
          have nl2 : ln2 ≠ l := Ne.symm (ne_of_none l10 fln2)
          have l11 := k11 _ _ l10 lq
          have tl : tp ≠ l := Ne.symm (ne_of_none l11 ftp)
          have s12 : Same H11 (upd H11 tp (.tup [.str nm, .ref ln2])) := Same.new ftp
          have h12 : (upd H11 tp (.tup [.str nm, .ref ln2])) tp = some (.tup [.str nm, .ref ln2]) := upd_same
          generalize upd H11 tp (.tup [.str nm, .ref ln2]) = H12 at s12 h12 ⊢
          have xl : xs.length = fs.length := by rw [a7.length, List.length_map]
          refine ⟨l, _, _, rfl, rfl, s12 _ _ l11, small1000 (by omega), ?_⟩
          have f12 : ∀ b o, H' b = some o → b ≠ q → H12 b = some o := fun b o e nb => s12 _ _ (k11 _ _ (f10 b o e nb) nb)
          have on : nameOk nm := kok nm (List.mem_of_getElem? ek)
          refine ⟨some (.str nm), some (.int (sz : Int)), fs ++ [(nm, ks2)], _, ?_, by rw [upd_ne pl]; exact f12 _ _ p7 pq, by rw [upd_ne nll]; exact f12 _ _ n7 nl, upd_same, ?_, ?_, fun f hf => ?_, ?_⟩
          · have : manyOf (fs ++ [(nm, ks2)]) = manyOf fs * ks2.length := many_snoc _ _
            rw [this]
            have : (ks2.length : Int) = sz := kl2
            rw [Int.natCast_mul, this]
            rfl
          · rw [List.map_append]
            refine HasAll.snoc (a7.frame fun b o g e => ⟨g, by rw [upd_ne g.2]; exact f12 b o e g.1⟩) (.tup ⟨q12, tl⟩ (by rw [upd_ne tl]; exact h12) (by show 2 ≤ 1000; decide) (.cons (.str nm (by have := on.2.2; omega) on.2.1) (.cons (.lst ⟨nq2, nl2⟩ (by rw [upd_ne nl2]; exact s12 _ _ hln2) (by rw [List.length_map]; show ks2.length ≤ 1000; omega) (names_has kok2)) .nil)))
          · rw [List.map_append, e7, List.take_add_one, ek]
            rfl
          · rcases List.mem_append.mp hf with hf | hf
            · exact o7 f hf
            · rw [List.mem_singleton.mp hf]
              exact ⟨on, by show 0 < ks2.length; omega, by show ks2.length ≤ 12; omega, knd2, kok2⟩
          · have : Src (upd H12 l (.lst (xs ++ [.ref tp]))) q _ := src S11 fun o e => by rw [upd_ne lq.symm]; exact s12 _ _ e
            exact this.mono (by push_cast; omega)
      · rintro σ H7 ⟨x5, x6, fs, xs, rfl, p7, n7, l7, a7, e7, o7, S7⟩
        rw [List.length_map, List.take_length] at e7
        have fl3 : fs.length ≤ 3 := by
          have := congrArg List.length e7
          rw [List.length_map] at this
          omega
        have fw : FieldsW fs := ⟨fl3, by rw [e7]; exact knd, o7⟩
        have xl : xs.length = fs.length := by rw [a7.length, List.length_map]
        have hf7 : Has Any H7 (.ref l) (.list (fs.map fieldD)) := .lst trivial l7 (by omega) a7.any
        clear S7 S6 S5 S3 k6 k5 k3 a7 l7 l6 p6 n7 hln fln kok knd kl e7 o7 s4 l4 s3 hp2
        refine ⟨Nat.zero_le _, fun lg flg => ?_⟩
        have s8 : Same H7 (upd H7 lg (.lst [])) := Same.new flg
        have g8 : (upd H7 lg (.lst [])) lg = some (.lst []) := upd_same
        have p8 := s8 _ _ p7
        have hf8 := hf7.mono s8
        generalize upd H7 lg (.lst []) = H8 at s8 g8 p8 hf8 ⊢
        refine ⟨fun σ' e C' H' => C' = CT ∧ σ' = [some (.ref a), some (.int z), some (.ref q), some (.int (manyOf fs : Nat)), some (.ref l), x5, x6, some (.str ""), some (.ref lg), u9, v1] ∧ H' p = some (.lst (ms.map V.int)) ∧ 8 < manyOf fs, ?_, ?_⟩
        · refine ⟨_, rfl, fun x dx hx hdx ne => ?_⟩
          have hx2 : (upd H8 dx (.own x)) x = none := by rw [upd_ne ne.symm]; exact hx
          have s9 : Same H8 (upd (upd H8 dx (.own x)) x (.ins C dx [])) := (Same.new hdx).trans (Same.new hx2)
          have fb := fields_w fw
          by_cases c : manyOf fs ≤ 8
          · refine .inl ⟨x, dx, .ref l, .str "box", "kind", _, .str "box", rfl, upd_same, by decide, by decide +kernel, by decide +kernel, hf8.mono s9, fb.1, .str _ (by decide) (by decide +kernel), by decide +kernel, by rw [fb.2]; omega, fun H10 l10 h10 hl10 fr10 => ⟨rfl, ?_⟩⟩
            have s10 : Same H8 H10 := fun b o e => fr10 b o (s9 _ _ e) (ne_of_none e hx)
            refine ⟨x, fs, rfl, ⟨dx, _, l10, _, h10, hl10.any⟩, fw.ok8 c, fun lr H11 s11 n11 h11 => ?_⟩
            have p11 := s11 _ _ (s10 _ _ p8)
            obtain ⟨lr', ss, e, _, e11, hz11, hss⟩ := id h11.list_inv
            cases e
            have lss : ss.length = manyOf fs := by rw [hss.length, List.length_map, allS_len]
            obtain ⟨ts, rfl, tl, tg⟩ := tups_refs hss
            refine ⟨_, rfl, by show 2 ≤ sizeLine; exact small 2 (by decide), fun q3 hq3 => ?_⟩
            have s3 : Same H11 (upd H11 q3 (.lst [.str "", .str "many"])) := Same.new hq3
            have h3 : (upd H11 q3 (.lst [.str "", .str "many"])) q3 = some (.lst [.str "", .str "many"]) := upd_same
            have p12 := s3 _ _ p11
            generalize upd H11 q3 (.lst [.str "", .str "many"]) = H12 at s3 h3 p12 ⊢
            refine ⟨_, rfl, _, _, rfl, rfl, .inr ⟨_, rfl, ?_⟩⟩
            rw [decide_eq_false (show ¬ ((manyOf fs : Nat) : Int) > 8 by omega)]
            refine ⟨q3, _, 0, _, rfl, rfl, SqL.of h3, rfl, rfl, _, rfl, ?_⟩
            rw [show (!decide (V.str "" = V.str "")) = false by simp]
            refine iteF ⟨_, rfl, rfl, _, rfl, ?_⟩
            rw [show decide (V.str "" = V.str "") = true by simp]
            refine iteT ⟨_, rfl, lr, _, rfl, .inl (SqL.of (s3 _ _ e11)), _, rfl, rfl, _, rfl, ?_⟩
            rw [show (!decide (V.int ((ts.map V.ref).length : Nat) = V.int ((manyOf fs : Nat) : Int))) = false by rw [lss]; simp]
            have al := allS_len fs
            refine iteF ⟨_, rfl, lr, ts, allS fs, rfl, s3 _ _ e11, tl, fun i t k h1 h2 => s3 _ _ (tg i t k h1 h2), allS_nodup fun f hf => (fw.ok f hf).2.2.2.1, by omega, fun ds hds => ?_⟩
            refine ⟨ds, _, rfl, upd_same, by omega, _, rfl, rfl, _, rfl, ?_⟩
            rw [show (!decide (V.int ((allS fs).length : Nat) = V.int ((manyOf fs : Nat) : Int))) = false by rw [al]; simp]
            refine iteF ?_
            exact ⟨_, _, _, _, _, _, _, _, _, _, rfl, (Same.new hds) _ _ p12⟩
          · refine .inr ⟨x, .ref l, "kind", "box", _, rfl, by decide, by decide +kernel, by decide +kernel, hf8.mono s9, fb.1, by decide, by decide +kernel, by decide +kernel, by decide +kernel, by rw [fb.2]; omega, fun e H10 n10 h10 s10 => ?_⟩
            exact ⟨e, CT, rfl, rfl, rfl, rfl, s10 _ _ (s9 _ _ p8), by omega⟩
        · rintro σ' e C' H' he ⟨rfl, rfl, p9, m9⟩
          refine ⟨A.R.exm, ?_⟩
          refine ⟨_, rfl, e, _, _, .ref C', true, rfl, he, A.R.x, rfl, A.R.one, (fun z => absurd rfl (z C')), _, rfl, iteT ?_⟩
          refine ⟨_, rfl, e, _, _, .type "ValueError", true, rfl, he, A.R.x, rfl, A.R.val, (fun _ => ⟨_, rfl⟩), _, rfl, iteT ?_⟩
          refine ⟨_, rfl, e, _, _, .ref CN, false, rfl, he, A.R.x, rfl, A.R.oth, (fun z => absurd rfl (z CN)), _, rfl, ?_⟩
          refine ⟨by show 2 ≤ sizeLine; exact small 2 (by decide), fun q2 hq2 => ?_⟩
          have s2 : Same H' (upd H' q2 (.lst [.str "other", .str "many"])) := Same.new hq2
          have h2 : (upd H' q2 (.lst [.str "other", .str "many"])) q2 = some (.lst [.str "other", .str "many"]) := upd_same
          have p10 := s2 _ _ p9
          generalize upd H' q2 (.lst [.str "other", .str "many"]) = H9 at s2 h2 p10 ⊢
          refine ⟨_, rfl, .inr ⟨_, rfl, q2, _, 1, _, rfl, rfl, SqL.of h2, rfl, ?_⟩⟩
          refine ⟨_, rfl, by show 2 ≤ sizeLine; exact small 2 (by decide), fun q3 hq3 => ?_⟩
          have s3 : Same H9 (upd H9 q3 (.lst [.str "", .str "many"])) := Same.new hq3
          have h3 : (upd H9 q3 (.lst [.str "", .str "many"])) q3 = some (.lst [.str "", .str "many"]) := upd_same
          have p11 := s3 _ _ p10
          generalize upd H9 q3 (.lst [.str "", .str "many"]) = H10 at s3 h3 p11 ⊢
          refine ⟨_, rfl, _, _, rfl, rfl, .inr ⟨_, rfl, ?_⟩⟩
          rw [decide_eq_true (show ((manyOf fs : Nat) : Int) > 8 by omega)]
          refine ⟨q3, _, 1, _, rfl, rfl, SqL.of h3, rfl, rfl, _, rfl, ?_⟩
          rw [show (!decide (V.str "many" = V.str "many")) = false by simp]
          refine iteF ⟨_, rfl, rfl, _, rfl, ?_⟩
          rw [decide_eq_false (show ¬ V.str "many" = V.str "" by intro z; injection z with z; exact absurd z (by decide +kernel))]
          refine iteF (iteF ?_)
          exact ⟨_, _, _, _, _, _, _, _, _, _, rfl, p11⟩
    · rintro σ H2 ⟨u1, u2, u3, u4, u5, u6, u7, u8, u9, v1, rfl, hp2⟩
      refine ⟨by show 8 ≤ sizeLine; exact small 8 (by decide), fun l1 f1 => ⟨by show 2 ≤ sizeLine; exact small 2 (by decide), fun t1 ft1 => ⟨by show 1 ≤ sizeLine; exact small 1 (by decide), fun l2 f2 => ?_⟩⟩⟩
      have hf : Has Any (upd (upd (upd H2 l1 (.lst [.str "a", .str "b", .str "c", .str "d", .str "e", .str "f", .str "g", .str "h"])) t1 (.tup [.str "b", .ref l1])) l2 (.lst [.ref t1])) (.ref l2) (.list ((([("b", lst8)] : List (Str × List Str))).map fieldD)) :=
        .lst trivial upd_same (by show 1 ≤ 1000; decide) (.cons (.tup trivial ((Same.new f2) _ _ upd_same) (by show 2 ≤ 1000; decide) (.cons (.str _ (by decide) (by decide +kernel)) (.cons (.lst trivial ((Same.new f2) _ _ ((Same.new ft1) _ _ upd_same)) (by show 8 ≤ 1000; decide) (show HasAll _ _ (lst8.map V.str) _ from names_has lst8_ok)) .nil))) .nil)
      generalize upd (upd (upd H2 l1 (.lst [.str "a", .str "b", .str "c", .str "d", .str "e", .str "f", .str "g", .str "h"])) t1 (.tup [.str "b", .ref l1])) l2 (.lst [.ref t1]) = H3 at hf ⊢
      intro x dx hx hdx ne
      have hx2 : (upd H3 dx (.own x)) x = none := by rw [upd_ne ne.symm]; exact hx
      have s9 : Same H3 (upd (upd H3 dx (.own x)) x (.ins C dx [])) := (Same.new hdx).trans (Same.new hx2)
      have fb := fields_w fields_8
      refine ⟨x, dx, .ref l2, .non, "a", _, .none, rfl, upd_same, by decide, by decide +kernel, by decide +kernel, hf.mono s9, fb.1, .non, rfl, by rw [fb.2]; decide, fun H10 l10 h10 hl10 fr10 => ⟨rfl, ?_⟩⟩
      refine ⟨x, _, rfl, ⟨dx, _, l10, _, h10, hl10.any⟩, fields_8.ok8 (by decide), fun lr H11 s11 n11 h11 => ?_⟩
      obtain ⟨lr', ss, e, _, e11, hz11, hss⟩ := id h11.list_inv
      cases e
      have lss : ss.length = 8 := by rw [hss.length, List.length_map, allS_len]; rfl
      refine ⟨lr, _, rfl, .inl (SqL.of e11), rfl, ?_⟩
      rw [lss, show decide (V.int ((8 : Nat) : Int) = V.int 8) = true from decide_eq_true rfl]
      exact k _
end
end L2.W
-- MOD K4K
namespace L2.W
open PySem My
theorem all_mk {l : PySem.W.OpenLaw} {w : World} {K : PySem.W.Frag} {h : Heap} {mg : Str → Option Value} {fx : Addr} (X : K.In h) (G : h.Ns mainGlobals mg) (hfa : mg "law" = some (.ref fx))
    {fN : Addr} {ocN kVN dcN pmN cdN ctN : Value} {odN anN : Option Addr} {slN : Array (Option Value)}
    {fU : Addr} {ocU kVU dcU pmU cdU ctU : Value} {odU anU : Option Addr} {slU : Array (Option Value)}
    {fP : Addr} {ocP kVP dcP pmP cdP ctP : Value} {odP anP : Option Addr} {slP : Array (Option Value)}
    {fF : Addr} {ocF kVF dcF pmF cdF ctF : Value} {odF anF : Option Addr} {slF : Array (Option Value)}
    {fCt : Addr} {ocCt kVCt dcCt pmCt cdCt ctCt : Value} {odCt anCt : Option Addr} {slCt : Array (Option Value)}
    {fpk : Addr} {ocpk kVpk dcpk pmpk cdpk ctpk : Value} {odpk anpk : Option Addr} {slpk : Array (Option Value)}
    {fS : Addr} {ocS kVS dcS pmS cdS ctS : Value} {odS anS : Option Addr} {slS : Array (Option Value)}
    {fm : Addr} {ocm kVm dcm pmm cdm ctm : Value} {odm anm : Option Addr} {slm : Array (Option Value)}
    {fd : Addr} {ocd kVd dcd pmd cdd ctd : Value} {odd and : Option Addr} {sld : Array (Option Value)}
    {fn : Addr} {ocn kVn dcn pmn cdn ctn : Value} {odn ann : Option Addr} {sln : Array (Option Value)}
    {fg : Addr} {ocg kVg dcg pmg cdg ctg : Value} {odg ang : Option Addr} {slg : Array (Option Value)}
    {fa : Addr} {oca kVa dca pma cda cta : Value} {oda ana : Option Addr} {sla : Array (Option Value)}
    {fL : Addr} {ocL kVL dcL pmL cdL ctL : Value} {odL anL : Option Addr} {slL : Array (Option Value)}
    {C fI TD : Addr} {ocI kVI dcI pmI cdI ctI : Value} {odI anI : Option Addr} {slI : Array (Option Value)} {ocT : Value} {odT : Option Addr} {slT : Array (Option Value)} {nT : Nat} {t1 t2 t3 : Tok} {CT CR CN : Addr}
    (xaN : PySem.W.nsIn K mainGlobals "is_name" = some (some (.ref fN))) (xlN : K.lookup fN = some ⟨ocN, odN, .func (PySem.W.fnOf "is_name" "is_name" (defArgs sIsName) (defBody sIsName) (defScope sIsName) .none kVN dcN pmN anN cdN ctN), slN⟩) (xcN : PySem.W.codeIn K cdN "is_name" = true) (xkN : PySem.W.keepIn K (.ref fN) = true)
    (xaU : PySem.W.nsIn K mainGlobals "are_unlike_names" = some (some (.ref fU))) (xlU : K.lookup fU = some ⟨ocU, odU, .func (PySem.W.fnOf "are_unlike_names" "are_unlike_names" (defArgs sUnlike) (defBody sUnlike) (defScope sUnlike) .none kVU dcU pmU anU cdU ctU), slU⟩) (xcU : PySem.W.codeIn K cdU "are_unlike_names" = true) (xkU : PySem.W.keepIn K (.ref fU) = true)
    (xaP : PySem.W.nsIn K mainGlobals "is_pair_with_values" = some (some (.ref fP))) (xlP : K.lookup fP = some ⟨ocP, odP, .func (PySem.W.fnOf "is_pair_with_values" "is_pair_with_values" (defArgs sPair) (defBody sPair) (defScope sPair) .none kVP dcP pmP anP cdP ctP), slP⟩) (xcP : PySem.W.codeIn K cdP "is_pair_with_values" = true) (xkP : PySem.W.keepIn K (.ref fP) = true)
    (xaF : PySem.W.nsIn K mainGlobals "are_fields" = some (some (.ref fF))) (xlF : K.lookup fF = some ⟨ocF, odF, .func (PySem.W.fnOf "are_fields" "are_fields" (defArgs sFields) (defBody sFields) (defScope sFields) .none kVF dcF pmF anF cdF ctF), slF⟩) (xcF : PySem.W.codeIn K cdF "are_fields" = true) (xkF : PySem.W.keepIn K (.ref fF) = true)
    (xaCt : PySem.W.nsIn K mainGlobals "count_states" = some (some (.ref fCt))) (xlCt : K.lookup fCt = some ⟨ocCt, odCt, .func (PySem.W.fnOf "count_states" "count_states" (defArgs sCount) (defBody sCount) (defScope sCount) .none kVCt dcCt pmCt anCt cdCt ctCt), slCt⟩) (xcCt : PySem.W.codeIn K cdCt "count_states" = true) (xkCt : PySem.W.keepIn K (.ref fCt) = true)
    (xapk : PySem.W.nsIn K mainGlobals "all_picks" = some (some (.ref fpk))) (xlpk : K.lookup fpk = some ⟨ocpk, odpk, .func (PySem.W.fnOf "all_picks" "all_picks" (defArgs sPicks) (defBody sPicks) (defScope sPicks) .none kVpk dcpk pmpk anpk cdpk ctpk), slpk⟩) (xcpk : PySem.W.codeIn K cdpk "all_picks" = true) (xkpk : PySem.W.keepIn K (.ref fpk) = true)
    (xaS : PySem.W.nsIn K mainGlobals "states" = some (some (.ref fS))) (xlS : K.lookup fS = some ⟨ocS, odS, .func (PySem.W.fnOf "states" "states" (defArgs sStates) (defBody sStates) (defScope sStates) .none kVS dcS pmS anS cdS ctS), slS⟩) (xcS : PySem.W.codeIn K cdS "states" = true) (xkS : PySem.W.keepIn K (.ref fS) = true)
    (xam : PySem.W.nsIn K mainGlobals "_law_mixed" = some (some (.ref fm))) (xlm : K.lookup fm = some ⟨ocm, odm, .func (PySem.W.fnOf "_law_mixed" "_law_mixed" (defArgs sMixed) (defBody sMixed) (defScope sMixed) .none kVm dcm pmm anm cdm ctm), slm⟩) (xcm : PySem.W.codeIn K cdm "_law_mixed" = true) (xkm : PySem.W.keepIn K (.ref fm) = true)
    (xad : PySem.W.nsIn K mainGlobals "_law_digits" = some (some (.ref fd))) (xld : K.lookup fd = some ⟨ocd, odd, .func (PySem.W.fnOf "_law_digits" "_law_digits" (defArgs sDigits) (defBody sDigits) (defScope sDigits) .none kVd dcd pmd and cdd ctd), sld⟩) (xcd : PySem.W.codeIn K cdd "_law_digits" = true) (xkd : PySem.W.keepIn K (.ref fd) = true)
    (xan : PySem.W.nsIn K mainGlobals "_law_next" = some (some (.ref fn))) (xln : K.lookup fn = some ⟨ocn, odn, .func (PySem.W.fnOf "_law_next" "_law_next" (defArgs sNext) (defBody sNext) (defScope sNext) .none kVn dcn pmn ann cdn ctn), sln⟩) (xcn : PySem.W.codeIn K cdn "_law_next" = true) (xkn : PySem.W.keepIn K (.ref fn) = true)
    (xag : PySem.W.nsIn K mainGlobals "_law_sign" = some (some (.ref fg))) (xlg : K.lookup fg = some ⟨ocg, odg, .func (PySem.W.fnOf "_law_sign" "_law_sign" (defArgs sSign) (defBody sSign) (defScope sSign) .none kVg dcg pmg ang cdg ctg), slg⟩) (xcg : PySem.W.codeIn K cdg "_law_sign" = true) (xkg : PySem.W.keepIn K (.ref fg) = true)
    (xaa : PySem.W.nsIn K mainGlobals "_law_names" = some (some (.ref fa))) (xla : K.lookup fa = some ⟨oca, oda, .func (PySem.W.fnOf "_law_names" "_law_names" (defArgs sNames) (defBody sNames) (defScope sNames) .none kVa dca pma ana cda cta), sla⟩) (xca : PySem.W.codeIn K cda "_law_names" = true) (xka : PySem.W.keepIn K (.ref fa) = true)
    (xaL : PySem.W.nsIn K mainGlobals "law" = some (some (.ref fL))) (xlL : K.lookup fL = some ⟨ocL, odL, .func (PySem.W.fnOf "law" "law" (defArgs sLaw) (defBody sLaw) (defScope sLaw) .none kVL dcL pmL anL cdL ctL), slL⟩) (xcL : PySem.W.codeIn K cdL "law" = true) (xkL : PySem.W.keepIn K (.ref fL) = true)
    (aC : PySem.W.nsIn K mainGlobals "Kind" = some (some (.ref C))) (aI : PySem.W.findIn K (.ref C) "__init__" = some (some (.ref fI))) (iI : PySem.W.isFn K (.ref fI) = true)
    (lI : K.lookup fI = some ⟨ocI, odI, .func (PySem.W.fnOf "__init__" "Kind.__init__" (defArgs sInit) (defBody sInit) (defScope sInit) (.ref TD) kVI dcI pmI anI cdI ctI), slI⟩) (cI : PySem.W.codeIn K cdI "Kind.__init__" = true)
    (lT : K.lookup TD = some ⟨ocT, odT, .seq #[.none] nT, slT⟩)
    (pg : PySem.W.plainGet K C Str.empty = true) (hd : PySem.W.hasDictIn K C = true) (po : PySem.W.plainOver K C = true) (sa : PySem.W.findIn K (.ref C) "__setattr__" = some (some (.builtin "object.__setattr__"))) (mk : PySem.W.makesIn K C = true) (kc : PySem.W.keepIn K (.ref C) = true)
    (nN : PySem.W.findIn K (.ref C) "name" = some none) (nF : PySem.W.findIn K (.ref C) "fields" = some none) (nO : PySem.W.findIn K (.ref C) "owner" = some none)
    (cL : PySem.W.nsIn K mainGlobals "LETTERS" = some (some (.str letters t1))) (cM : PySem.W.nsIn K mainGlobals "MOST_LETTERS" = some (some (.int 8 t2))) (cS : PySem.W.nsIn K mainGlobals "MOST_STATES" = some (some (.int 8 t3)))
    (aT : PySem.W.nsIn K mainGlobals "TooMany" = some (some (.ref CT))) (aR : PySem.W.nsIn K mainGlobals "RestError" = some (some (.ref CR))) (aN : PySem.W.nsIn K mainGlobals "NoKind" = some (some (.ref CN))) (zVE : PySem.W.nsIn K mainGlobals "ValueError" = some none)
    (xex : PySem.W.excIn K CT [.type "ValueError", .type "Exception", .type "BaseException", .type "object"] "ValueError.__new__" = true) (xga : PySem.W.findIn K (.ref CT) "__getattribute__" = some (some (.builtin "BaseException.__getattribute__"))) (xgt : PySem.W.findIn K (.ref CT) "__getattr__" = some none) (xcf : PySem.W.findIn K (.ref CT) "__class__" = some (some (.builtin "object.__class__"))) (xob : PySem.W.mroIn K CT (.type "object") = some true)
    (xem : PySem.W.exmOne K (.ref CT) (.ref CR) = some true) (xon : PySem.W.kitOne K (.ref CT) (.ref CT) = some true) (xva : PySem.W.kitOne K (.ref CT) (.type "ValueError") = some true) (xot : PySem.W.kitOne K (.ref CT) (.ref CN) = some false)
    (z_isinstance : PySem.W.nsIn K mainGlobals "isinstance" = some none)
    (z_len : PySem.W.nsIn K mainGlobals "len" = some none)
    (z_all : PySem.W.nsIn K mainGlobals "all" = some none)
    (z_set : PySem.W.nsIn K mainGlobals "set" = some none)
    (z_range : PySem.W.nsIn K mainGlobals "range" = some none)
    (z_str : PySem.W.nsIn K mainGlobals "str" = some none)
    (z_list : PySem.W.nsIn K mainGlobals "list" = some none)
    (z_tuple : PySem.W.nsIn K mainGlobals "tuple" = some none)
    (z_zip : PySem.W.nsIn K mainGlobals "zip" = some none)
    (z_int : PySem.W.nsIn K mainGlobals "int" = some none) :
    ∃ fd : FuncData, (∀ (s : Shared) (v : Value), BindsTo s fd ⟨[v], []⟩ [("_law_script", v)]) ∧ ∀ base : Heap, K.In base → base.Ns mainGlobals mg → FnOk l.prog w K mg base CX0 7 fx fd ["_law_script"] (spLaw4 K) := by
  have e := hfa.symm.trans (PySem.W.mg_of X G xaL)
  cases e
  have T : Tops K mg := ⟨PySem.W.mg_none_of X G z_isinstance, PySem.W.mg_none_of X G z_len, PySem.W.mg_none_of X G z_all, PySem.W.mg_none_of X G z_set, PySem.W.mg_none_of X G z_range, PySem.W.mg_none_of X G z_str, PySem.W.mg_none_of X G z_list, PySem.W.mg_none_of X G z_tuple, PySem.W.mg_none_of X G z_zip, PySem.W.mg_none_of X G z_int, ⟨_, PySem.W.mg_of X G cL⟩, ⟨_, PySem.W.mg_of X G cM⟩, ⟨_, PySem.W.mg_of X G cS⟩⟩
  have FN := fun_mk (st := sIsName) xlN xcN xkN
  have DN : Def K mg "is_name" sIsName ["thing"] fN _ := ⟨FN, PySem.W.mg_of X G xaN, FN.binds (ps := ["thing"]) fun _ _ _ _ _ _ us hl => match us, hl with | [_], _ => rfl⟩
  have FU := fun_mk (st := sUnlike) xlU xcU xkU
  have DU : Def K mg "are_unlike_names" sUnlike ["things"] fU _ := ⟨FU, PySem.W.mg_of X G xaU, FU.binds (ps := ["things"]) fun _ _ _ _ _ _ us hl => match us, hl with | [_], _ => rfl⟩
  have FP := fun_mk (st := sPair) xlP xcP xkP
  have DP : Def K mg "is_pair_with_values" sPair ["thing"] fP _ := ⟨FP, PySem.W.mg_of X G xaP, FP.binds (ps := ["thing"]) fun _ _ _ _ _ _ us hl => match us, hl with | [_], _ => rfl⟩
  have FF := fun_mk (st := sFields) xlF xcF xkF
  have DF : Def K mg "are_fields" sFields ["things"] fF _ := ⟨FF, PySem.W.mg_of X G xaF, FF.binds (ps := ["things"]) fun _ _ _ _ _ _ us hl => match us, hl with | [_], _ => rfl⟩
  have FCt := fun_mk (st := sCount) xlCt xcCt xkCt
  have DCt : Def K mg "count_states" sCount ["fields"] fCt _ := ⟨FCt, PySem.W.mg_of X G xaCt, FCt.binds (ps := ["fields"]) fun _ _ _ _ _ _ us hl => match us, hl with | [_], _ => rfl⟩
  have Fpk := fun_mk (st := sPicks) xlpk xcpk xkpk
  have Dpk : Def K mg "all_picks" sPicks ["lists"] fpk _ := ⟨Fpk, PySem.W.mg_of X G xapk, Fpk.binds (ps := ["lists"]) fun _ _ _ _ _ _ us hl => match us, hl with | [_], _ => rfl⟩
  have FS := fun_mk (st := sStates) xlS xcS xkS
  have DS : Def K mg "states" sStates ["kind"] fS _ := ⟨FS, PySem.W.mg_of X G xaS, FS.binds (ps := ["kind"]) fun _ _ _ _ _ _ us hl => match us, hl with | [_], _ => rfl⟩
  have Fm := fun_mk (st := sMixed) xlm xcm xkm
  have Dm : Def K mg "_law_mixed" sMixed ["_law_cell", "_law_k"] fm _ := ⟨Fm, PySem.W.mg_of X G xam, Fm.binds (ps := ["_law_cell", "_law_k"]) fun _ _ _ _ _ _ us hl => match us, hl with | [_, _], _ => rfl⟩
  have Fd := fun_mk (st := sDigits) xld xcd xkd
  have Dd : Def K mg "_law_digits" sDigits ["_law_cell"] fd _ := ⟨Fd, PySem.W.mg_of X G xad, Fd.binds (ps := ["_law_cell"]) fun _ _ _ _ _ _ us hl => match us, hl with | [_], _ => rfl⟩
  have Fn := fun_mk (st := sNext) xln xcn xkn
  have Dn : Def K mg "_law_next" sNext ["_law_source", "_law_many"] fn _ := ⟨Fn, PySem.W.mg_of X G xan, Fn.binds (ps := ["_law_source", "_law_many"]) fun _ _ _ _ _ _ us hl => match us, hl with | [_, _], _ => rfl⟩
  have Fg := fun_mk (st := sSign) xlg xcg xkg
  have Dg : Def K mg "_law_sign" sSign ["_law_sign_here", "_law_turn"] fg _ := ⟨Fg, PySem.W.mg_of X G xag, Fg.binds (ps := ["_law_sign_here", "_law_turn"]) fun _ _ _ _ _ _ us hl => match us, hl with | [_, _], _ => rfl⟩
  have Fa := fun_mk (st := sNames) xla xca xka
  have Da : Def K mg "_law_names" sNames ["_law_source", "_law_many"] fa _ := ⟨Fa, PySem.W.mg_of X G xaa, Fa.binds (ps := ["_law_source", "_law_many"]) fun _ _ _ _ _ _ us hl => match us, hl with | [_, _], _ => rfl⟩
  have FL := fun_mk (st := sLaw) xlL xcL xkL
  have FI : FunD K "__init__" "Kind.__init__" sInit (.ref TD) fI _ := ⟨⟨ocI, odI, kVI, dcI, pmI, anI, cdI, ctI, slI, rfl, lI, cI⟩⟩
  have KC : KCls K mg C fI := ⟨⟨pg, hd, po, sa⟩, nN, nF, nO, PySem.W.mg_of X G aC, ⟨mk, aI, iI, kc⟩⟩
  have bK : Binds K (PySem.W.fnOf "__init__" "Kind.__init__" (defArgs sInit) (defBody sInit) (defScope sInit) (.ref TD) kVI dcI pmI anI cdI ctI) ["self", "name", "fields", "owner"] [.none] := by
    intro s us hK hl
    match us, hl with
    | [a, n, f], _ => exact PySem.W.binds_K hK rfl lT rfl (by rfl) (by rfl)
    | [], hl => cases hl
    | [_], hl => cases hl
    | [_, _], hl => cases hl
    | _ :: _ :: _ :: _ :: _, hl => simp at hl
  have bK3 : Binds K (PySem.W.fnOf "__init__" "Kind.__init__" (defArgs sInit) (defBody sInit) (defScope sInit) (.ref TD) kVI dcI pmI anI cdI ctI) ["self", "name", "fields", "owner"] [] := by
    intro s us hK hl
    rw [List.append_nil] at hl ⊢
    match us, hl with
    | [a, n, f, o], _ => exact PySem.W.binds_K hK rfl lT rfl (by rfl) (by rfl)
  have rf : Refs4 K mg CT CR CN := ⟨PySem.W.mg_of X G aT, ⟨xex, xga, xgt, xcf, xob⟩, PySem.W.mg_of X G aR, PySem.W.mg_of X G aN, PySem.W.mg_none_of X G zVE, xem, xon, xva, xot⟩
  refine ⟨PySem.W.fnOf "law" "law" (defArgs sLaw) (defBody sLaw) (defScope sLaw) .none kVL dcL pmL anL cdL ctL, fun s v => .of_eq rfl, fun base _ _ => (ok_law4 FL ⟨T, DN, DU, DP, DF, DCt, FI, KC, bK3, bK, Dpk, DS, rf, Dm, Dd, Dn, Dg, Da⟩).calm calmM⟩
theorem walk {l : PySem.W.OpenLaw} {q : Program} {loose : List Str} {XP : (Str → Option Value) → Heap → Prop} {YP : World → Heap → Prop} {d : DefRec} {K : Params → PySem.W.Frag} (hn : l.most = some 63) (hdf : d.params.defaults = [])
    (hY : ∀ (w : World) (h : Heap), YP w h → (K w.params).In h)
    (F : ∀ (w : World) (mg : Str → Option Value) (fa : Addr) (h : Heap), (K w.params).In h → h.Ns mainGlobals mg → mg d.name = some (.ref fa) →
      ∃ fd : FuncData, (∀ (s : Shared) (u : Value), BindsTo s fd ⟨[u], []⟩ [("_law_script", u)]) ∧ ∀ base : Heap, (K w.params).In base → base.Ns mainGlobals mg → FnOk l.prog w (K w.params) mg base CX0 7 fa fd ["_law_script"] (spLaw4 (K w.params))) :
    PySem.W.WalkO q loose XP YP l.row.toRowW d [] (fun f vs => PySem.call f vs) :=
  L2.walk_of (n := 63) (k := 7) (x := "_law_script") (CX := fun _ => CX0) (sp := fun w => spLaw4 (K w.params)) hn (by decide) hdf ⟨rfl, by decide, by decide⟩ hY F (fun _ _ a ns hl _ hS => ⟨a, ns, rfl, hS, hl, fun _ => rfl⟩) fun _ _ _ _ _ z => z
end L2.W
-- MOD K4L
open PySem PySem.W PyProof.Rows
set_option maxRecDepth 100000 in
set_option maxHeartbeats 0 in
theorem PySem.Challenge.cw_cometorest_k04_too_many_states_holds : PySem.Challenge.rw_cometorest_k04_too_many_states.Holds := by
  w_on; o_law; k_head; (case hw => w_witness2)
  k_fill
  refine L2.W.walk (l := PySem.Challenge.rw_cometorest_k04_too_many_states) rfl rfl (fun w h Y => PySem.W.kIn_of Y) ?F
  case F =>
    intro w mg fa h KX G hmg
    refine' L2.W.all_mk KX G hmg ?xaN ?xlN ?xcN ?xkN ?xaU ?xlU ?xcU ?xkU ?xaP ?xlP ?xcP ?xkP ?xaF ?xlF ?xcF ?xkF ?xaCt ?xlCt ?xcCt ?xkCt ?xapk ?xlpk ?xcpk ?xkpk ?xaS ?xlS ?xcS ?xkS ?xam ?xlm ?xcm ?xkm ?xad ?xld ?xcd ?xkd ?xan ?xln ?xcn ?xkn ?xag ?xlg ?xcg ?xkg ?xaa ?xla ?xca ?xka ?xaL ?xlL ?xcL ?xkL ?aC ?aI ?iI ?lI ?cI ?lT ?pg ?hd ?po ?sa ?mk ?kc ?nN ?nF ?nO ?cL ?cM ?cS ?aT ?aR ?aN ?zVE ?xex ?xga ?xgt ?xcf ?xob ?xem ?xon ?xva ?xot ?z_isinstance ?z_len ?z_all ?z_set ?z_range ?z_str ?z_list ?z_tuple ?z_zip ?z_int
    (case xaN => k_is)
    (case xlN => k_is)
    (case xcN => first | k_is | rfl | kernel_rfl | decide +kernel)
    (case xkN => k_is)
    (case xaU => k_is)
    (case xlU => k_is)
    (case xcU => first | k_is | rfl | kernel_rfl | decide +kernel)
    (case xkU => k_is)
    (case xaP => k_is)
    (case xlP => k_is)
    (case xcP => first | k_is | rfl | kernel_rfl | decide +kernel)
    (case xkP => k_is)
    (case xaF => k_is)
    (case xlF => k_is)
    (case xcF => first | k_is | rfl | kernel_rfl | decide +kernel)
    (case xkF => k_is)
    (case xaCt => k_is)
    (case xlCt => k_is)
    (case xcCt => k_is)
    (case xkCt => k_is)
    (case xapk => k_is)
    (case xlpk => k_is)
    (case xcpk => k_is)
    (case xkpk => k_is)
    (case xaS => k_is)
    (case xlS => k_is)
    (case xcS => first | k_is | rfl | kernel_rfl | decide +kernel)
    (case xkS => k_is)
    (case xam => k_is)
    (case xlm => k_is)
    (case xcm => first | k_is | rfl | kernel_rfl | decide +kernel)
    (case xkm => k_is)
    (case xad => k_is)
    (case xld => k_is)
    (case xcd => first | k_is | rfl | kernel_rfl | decide +kernel)
    (case xkd => k_is)
    (case xan => k_is)
    (case xln => k_is)
    (case xcn => first | k_is | rfl | kernel_rfl | decide +kernel)
    (case xkn => k_is)
    (case xag => k_is)
    (case xlg => k_is)
    (case xcg => first | k_is | rfl | kernel_rfl | decide +kernel)
    (case xkg => k_is)
    (case xaa => k_is)
    (case xla => k_is)
    (case xca => first | k_is | rfl | kernel_rfl | decide +kernel)
    (case xka => k_is)
    (case xaL => k_is)
    (case xlL => k_is)
    (case xcL => first | k_is | rfl | kernel_rfl | decide +kernel)
    (case xkL => k_is)
    (case aC => k_is)
    (case aI => k_is)
    (case iI => k_is)
    (case lI => k_is)
    (case cI => k_is)
    (case lT => k_is)
    (case pg => k_is)
    (case hd => k_is)
    (case po => k_is)
    (case sa => k_is)
    (case mk => k_is)
    (case kc => k_is)
    (case nN => k_is)
    (case nF => k_is)
    (case nO => k_is)
    (case cL => k_is)
    (case cM => k_is)
    (case cS => k_is)
    (case aT => k_is)
    (case aR => k_is)
    (case aN => k_is)
    (case zVE => k_is)
    (case xex => first | k_is | rfl | kernel_rfl | decide +kernel)
    (case xga => first | k_is | rfl | kernel_rfl | decide +kernel)
    (case xgt => first | k_is | rfl | kernel_rfl | decide +kernel)
    (case xcf => first | k_is | rfl | kernel_rfl | decide +kernel)
    (case xob => first | k_is | rfl | kernel_rfl | decide +kernel)
    (case xem => first | k_is | rfl | kernel_rfl | decide +kernel)
    (case xon => first | k_is | rfl | kernel_rfl | decide +kernel)
    (case xva => first | k_is | rfl | kernel_rfl | decide +kernel)
    (case xot => first | k_is | rfl | kernel_rfl | decide +kernel)
    (case z_isinstance => k_is)
    (case z_len => k_is)
    (case z_all => k_is)
    (case z_set => k_is)
    (case z_range => k_is)
    (case z_str => k_is)
    (case z_list => k_is)
    (case z_tuple => k_is)
    (case z_zip => k_is)
    (case z_int => k_is)

