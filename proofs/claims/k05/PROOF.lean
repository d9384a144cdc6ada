import PyProof.Rows.All
import Wide.All
import OpenK.AllK
import Wide.FinOn
import Lean
import PyProof.EqAt
import PyProof.EqKinds
import PyProof.TupleCall
import PySem.Challenge.RW_cometorest_k05_what_makes_no_kinds
import KE.KMinKey
import KE.KLam
import KE.KNestM
import KE.KDictList
import PyProof.EnumMake
import PyProof.EnumFor
import PyProof.EnumStmt
import PyProof.AttrMissHeap
import KE.KDictOf
import PyProof.StrLawsChain
import PyProof.StrLawsTight
import PyProof.Rows.StrItems
import PyProof.Rows.StrSplitCount
import PyProof.FString
import KE.KIntText
import KE.KTryMore
import PyProof.NsDelKeeps
import PyProof.ExcClass3
import PyProof.ExcBaseAll.ValueError
import PyProof.ExcAttrAll.ValueError
import PyProof.NeKinds
set_option Elab.async false
set_option linter.all false
set_option maxRecDepth 100000
-- MOD Lay
/-! THE HAND LAYER, for ints, bools, texts, own classes, LISTS and tuples (index, slices, in, append, pop ..), calls, loops. Paste it whole ahead of your own text; what your proof does not reach may be deleted. -/
namespace L2
open PySem PySem.Spec PyProof.Rows
noncomputable abbrev Key := Sum Int Str
noncomputable def keyIs : Key → Value → Bool
  | .inl k, v => Value.isInt k v
  | .inr x, v => Value.isStrOf x v
noncomputable def keyH (w : World) : Key → Int
  | .inl k => hashInt k
  | .inr x => hashStr w x
theorem keyIs_shape : ∀ {k : Key} {v : Value}, keyIs k v = true → (∃ i t, k = Sum.inl i ∧ v = Value.int i t) ∨ (∃ x t, k = Sum.inr x ∧ v = Value.str x t)
  | .inl i, v, h => by
    obtain ⟨t, e⟩ := Value.isInt_shape (k := i) (v := v) h
    exact .inl ⟨i, t, rfl, e⟩
  | .inr x, v, h => by
    obtain ⟨t, e⟩ := Value.isStrOf_shape (x := x) (v := v) h
    exact .inr ⟨x, t, rfl, e⟩
theorem keyIs_int (i : Int) (t : Tok) : keyIs (.inl i) (.int i t) = true := by simp [keyIs, Value.isInt]
theorem keyIs_str (x : Str) (t : Tok) : keyIs (.inr x) (.str x t) = true := by simp [keyIs, Value.isStrOf]
theorem key_ll (a b : Int) : decide ((Sum.inl a : Key) = Sum.inl b) = (a == b) := by
  by_cases e : a = b
  · subst e; simp
  · have h : ¬ (Sum.inl a : Key) = Sum.inl b := fun q => e (Sum.inl.inj q)
    rw [decide_eq_false h]
    exact (beq_eq_false_iff_ne.mpr e).symm
theorem key_rr (a b : Str) : decide ((Sum.inr a : Key) = Sum.inr b) = decide (a = b) := by
  by_cases e : a = b
  · subst e; simp
  · have h : ¬ (Sum.inr a : Key) = Sum.inr b := fun q => e (Sum.inr.inj q)
    rw [decide_eq_false h, decide_eq_false e]
theorem key_lr (a : Int) (b : Str) : decide ((Sum.inl a : Key) = Sum.inr b) = false := decide_eq_false (fun q => nomatch q)
theorem key_rl (a : Str) (b : Int) : decide ((Sum.inr a : Key) = Sum.inl b) = false := decide_eq_false (fun q => nomatch q)

noncomputable def mixKind (prog : Program) (w : World) : PySem.KeyKind prog w Key where
  is := keyIs
  hash := keyH w
  inj := fun v a b ha hb => by
    rcases keyIs_shape ha with ⟨i, t, rfl, rfl⟩ | ⟨x, t, rfl, rfl⟩
    · rcases keyIs_shape hb with ⟨j, u, rfl, e⟩ | ⟨y, u, rfl, e⟩
      · injection e with e1 _; rw [e1]
      · exact nomatch e
    · rcases keyIs_shape hb with ⟨j, u, rfl, e⟩ | ⟨y, u, rfl, e⟩
      · exact nomatch e
      · injection e with e1 _; rw [e1]
  byValue := fun k v h => by
    rcases keyIs_shape h with ⟨i, t, rfl, rfl⟩ | ⟨x, t, rfl, rfl⟩ <;> rfl
  pyHash := fun hv h => by
    rcases keyIs_shape hv with ⟨i, t, rfl, rfl⟩ | ⟨x, t, rfl, rfl⟩
    · exact wpAny_pyHash_int h
    · exact wpAny_pyHash_str h
  eqBool := fun hu hv h => by
    rcases keyIs_shape hu with ⟨i, t, rfl, rfl⟩ | ⟨x, t, rfl, rfl⟩
    · rcases keyIs_shape hv with ⟨j, u, rfl, rfl⟩ | ⟨y, u, rfl, rfl⟩
      · rw [key_ll] at h; exact wpAny_eqBool_int h
      · rw [key_lr] at h; exact SeqAt.EqAt.int_str i t y u _ _ _ _ h
    · rcases keyIs_shape hv with ⟨j, u, rfl, rfl⟩ | ⟨y, u, rfl, rfl⟩
      · rw [key_rl] at h; exact SeqAt.EqAt.str_int x t j u _ _ _ _ h
      · rw [key_rr] at h; exact wpAny_eqBool_str h
  «strs» := fun k x t v h => by
    rcases keyIs_shape h with ⟨i, u, rfl, e⟩ | ⟨y, u, rfl, e⟩
    · exact nomatch e
    · injection e with e1 _
      subst e1
      cases v <;> rfl

theorem mixKind_int (prog : Program) (w : World) (i : Int) (t : Tok) : (mixKind prog w).is (.inl i) (.int i t) = true := keyIs_int i t
theorem mixKind_str (prog : Program) (w : World) (x : Str) (t : Tok) : (mixKind prog w).is (.inr x) (.str x t) = true := keyIs_str x t
end L2
namespace L2
open PySem PySem.Spec PyProof.Rows
inductive V where
  | non | bl (b : Bool) | int (i : Int) | str (x : Str) | byt (b : Array UInt8) | flt (b : UInt64) | ref (a : Addr) | ty (n : String)
  deriving DecidableEq

noncomputable def RelV : V → Value → Prop
  | .non, u => u = Value.none
  | .bl b, u => u = Value.bool b
  | .int i, u => ∃ t, u = Value.int i t
  | .str x, u => ∃ t, u = Value.str x t
  | .byt b, u => ∃ t, u = Value.bytes b t
  | .flt b, u => ∃ t, u = Value.float b t
  | .ref a, u => u = Value.ref a
  | .ty n, u => u = Value.type n

noncomputable abbrev Vals : List V → List Value → Prop := Paired RelV
theorem Vals.length {xs : List V} {us : List Value} (r : Vals xs us) : xs.length = us.length := Paired.length r
theorem Vals.get : ∀ {xs : List V} {us : List Value} {i : Nat} {x : V}, Vals xs us → xs[i]? = some x → ∃ u, us[i]? = some u ∧ RelV x u
  | _, _, _, _, .nil, e => by simp at e
  | _, _, 0, _, .cons r _, e => by simp at e; subst e; exact ⟨_, rfl, r⟩
  | _, _, i + 1, x, .cons _ t, e => by
    obtain ⟨u, h1, h2⟩ := Vals.get (i := i) (x := x) t (by simpa using e)
    exact ⟨u, by simpa using h1, h2⟩
theorem Vals.set {x : V} {u : Value} (r : RelV x u) : ∀ {xs : List V} {us : List Value} (i : Nat), Vals xs us → Vals (xs.set i x) (us.set i u)
  | _, _, _, .nil => .nil
  | _, _, 0, .cons _ t => .cons r t
  | _, _, i + 1, .cons q t => .cons q (Vals.set r i t)
theorem Vals.append : ∀ {xs ys : List V} {us ws : List Value}, Vals xs us → Vals ys ws → Vals (xs ++ ys) (us ++ ws)
  | _, _, _, _, .nil, s => s
  | _, _, _, _, .cons r t, s => .cons r (Vals.append t s)
theorem Vals.take : ∀ {xs : List V} {us : List Value} (n : Nat), Vals xs us → Vals (xs.take n) (us.take n)
  | _, _, 0, _ => .nil
  | _, _, _ + 1, .nil => .nil
  | _, _, n + 1, .cons r t => .cons r (Vals.take n t)
theorem Vals.drop : ∀ {xs : List V} {us : List Value} (n : Nat), Vals xs us → Vals (xs.drop n) (us.drop n)
  | _, _, 0, r => r
  | _, _, _ + 1, .nil => .nil
  | _, _, n + 1, .cons _ t => Vals.drop n t
noncomputable def RelO : Option V → Option Value → Prop
  | some v, some u => RelV v u
  | none, none => True
  | _, _ => False
noncomputable def KV {κ : Type} : List (κ × V) → List (κ × Value) → Prop := Paired fun (p : κ × V) (q : κ × Value) => p.1 = q.1 ∧ RelV p.2 q.2

noncomputable def kV : Key → V
  | .inl i => .int i
  | .inr x => .str x

inductive HO where
  /-- a list -/
  | lst (xs : List V)
  /-- a tuple (never changes) -/
  | tup (xs : List V)
  /-- a dict whose keys are ints and texts; one whose keys are tuples of ints and texts (the empty one is both) -/
  | dK (kvs : List (Key × V)) | dT (kvs : List (List Key × V))
  /-- a set of ints: its members, its size -/
  | set (S : Int → Bool) (n : Nat)
  /-- an instance of the class at C, its dict at dx, its attributes -/
  | ins (C dx : Addr) (fs : List (Str × V))
  /-- the dict of the instance at x -/
  | own (x : Addr)
  /-- the dict of an exception -/
  | xd (fs : List (Str × V))
  /-- a bound method, f of x -/
  | met (f x : Addr)
  /-- a range object lo, lo + 1, .. below hi -/
  | rng (lo hi : Int)
  /-- a thing that is known to the object (the script; a dict while a loop walks it): read, never written while it is so -/
  | frz (o : Obj) (u : HO)
  /-- a code object's table -/
  | tbl (ps : Array Value)
  /-- any other thing, by what is true of its one object (a def of one's own: SetO a S n := HO.ext fun h => ..) -/
  | ext (φ : Heap → Prop)

noncomputable abbrev Hp := Addr → Option HO
noncomputable def upd (H : Hp) (a : Addr) (o : HO) : Hp := fun b => if b = a then some o else H b
theorem upd_same {H : Hp} {a : Addr} {o : HO} : upd H a o a = some o := by unfold upd; rw [if_pos rfl]
theorem upd_ne {H : Hp} {a b : Addr} {o : HO} (h : b ≠ a) : upd H a o b = H b := by unfold upd; rw [if_neg h]
theorem ne_of {H : Hp} {a b : Addr} {o u : HO} (h : H a = some o) (h' : H b = some u) (d : o ≠ u) : a ≠ b := by
  intro e; subst e; rw [h] at h'; exact d (Option.some.inj h')
theorem ne_of_none {H : Hp} {a b : Addr} {o : HO} (h : H a = some o) (h' : H b = none) : a ≠ b := by
  intro e; subst e; rw [h] at h'; cases h'

section
variable (P : Program) (w : World)
noncomputable def ObjOk (H : Hp) (h : Heap) (a : Addr) : HO → Prop
  | .lst xs => xs.length ≤ sizeLine ∧ ∃ (its : List Value) (n : Nat), Vals xs its ∧ h.get? a = some { cls := .type "list", data := .seq its.toArray n }
  | .tup xs => xs.length ≤ sizeLine ∧ ∃ its : List Value, Vals xs its ∧ IsTup h a its.toArray
  | .dK kvs => kvs.length ≤ sizeLine ∧ (a == sysModules) = false ∧ ∃ vs, KV kvs vs ∧ h.DictOf (mixKind P w) a vs
  | .dT kvs => kvs.length ≤ sizeLine ∧ (a == sysModules) = false ∧ ∃ xs : List (List Key × Addr × Value),
      Paired (fun (p : List Key × V) (q : List Key × Addr × Value) => p.1 = q.1 ∧ H q.2.1 = some (.tup (p.1.map kV)) ∧ RelV p.2 q.2.2) kvs xs ∧
      ∃ o es ep, h.get? a = some o ∧ o.ExactDict ∧ o.data = .dict es ep ∧ es.toList = xs.map (entryOfKey (tupleKind (mixKind P w))) ∧ (xs.map (·.1)).Nodup
  | .set S n => h.SetOf (intKind P w) a S n
  | .ins C dx fs => H dx = some (.own a) ∧ fs.length ≤ 1000 ∧ dx ≠ a ∧ h.get? a = some (PySem.W.instObj C dx) ∧
      ∃ mA, h.Ns1 dx mA ∧ (∀ f, RelO (fs.lookup f) (mA f)) ∧ PySem.Within mA (fs.map (·.1))
  | .own _ => ∃ o, h.get? a = some o
  | .xd fs => ∃ mA, h.Ns1 a mA ∧ ∀ f, RelO (fs.lookup f) (mA f)
  | .rng lo hi => ∃ t u v, h.get? a = some { cls := .type "range", data := .fields #[.int lo t, .int hi u, .int 1 v] }
  | .frz o u => h.get? a = some o ∧ ObjOk H h a u
  | .tbl ps => h.get? a = some { cls := .none, data := .fields ps }
  | .met f x => h.get? a = some (PySem.W.methodObj (.ref f) (.ref x))
  | .ext φ => φ h ∧ (∃ o, h.get? a = some o) ∧ ∀ h1 h2 : Heap, φ h1 → (∀ o, h1.get? a = some o → h2.get? a = some o) → φ h2
noncomputable def HOk (H : Hp) (h : Heap) : Prop := ∀ a o, H a = some o → ObjOk P w H h a o
end
section
variable {P : Program} {w : World} {H H' : Hp} {h h' : Heap} {a : Addr} {o : HO}
theorem ObjOk.lt (x : ObjOk P w H h a o) : a < h.objs.size := by
  cases o with
  | lst xs => obtain ⟨_, _, _, _, e⟩ := x; exact Heap.lt_size e
  | tup xs => obtain ⟨_, _, _, p⟩ := x; exact p.lt
  | dK kvs => obtain ⟨_, _, _, _, o, _, _, e, _⟩ := x; exact Heap.lt_size e
  | dT kvs => obtain ⟨_, _, _, _, o, _, _, e, _⟩ := x; exact Heap.lt_size e
  | set S n => obtain ⟨o, _, _, _, e, _⟩ := x; exact Heap.lt_size e
  | ins C dx fs => obtain ⟨_, _, _, e, _⟩ := x; exact Heap.lt_size e
  | own y => obtain ⟨_, e⟩ := x; exact Heap.lt_size e
  | xd fs => obtain ⟨_, ⟨_, _, _, e, _⟩, _⟩ := x; exact Heap.lt_size e
  | rng lo hi => obtain ⟨_, _, _, e⟩ := x; exact Heap.lt_size e
  | frz ob u => obtain ⟨e, _⟩ := x; exact Heap.lt_size e
  | tbl ps => exact Heap.lt_size (show h.get? a = some _ from x)
  | met f y => exact Heap.lt_size (show h.get? a = some _ from x)
  | ext φ => obtain ⟨_, ⟨_, e⟩, _⟩ := x; exact Heap.lt_size e
theorem Paired.mapP {α β : Type} {F G : α → β → Prop} : ∀ {l₁ : List α} {l₂ : List β}, Paired F l₁ l₂ → (∀ a b, F a b → G a b) → Paired G l₁ l₂
  | _, _, .nil, _ => .nil
  | _, _, .cons r t, f => .cons (f _ _ r) (Paired.mapP t f)
theorem ObjOk.stay (x : ObjOk P w H h a o) (k : ∀ b u, (b = a ∨ H b = some (.own a)) → h.get? b = some u → h'.get? b = some u)
    (ho : ∀ b, H b = some (.own a) → H' b = some (.own a)) (ht : ∀ b xs, H b = some (.tup xs) → H' b = some (.tup xs)) : ObjOk P w H' h' a o := by
  induction o with
  | lst xs => obtain ⟨z, its, n, r, e⟩ := x; exact ⟨z, its, n, r, k _ _ (.inl rfl) e⟩
  | tup xs => obtain ⟨z, its, r, ob, e, c⟩ := x; exact ⟨z, its, r, ob, k _ _ (.inl rfl) e, c⟩
  | dK kvs => obtain ⟨z, y, vs, r, ob, es, ep, e, c⟩ := x; exact ⟨z, y, vs, r, ob, es, ep, k _ _ (.inl rfl) e, c⟩
  | dT kvs =>
    obtain ⟨z, y, xs, r, ob, es, ep, e, c⟩ := x
    exact ⟨z, y, xs, Paired.mapP r fun p q z => ⟨z.1, ht _ _ z.2.1, z.2.2⟩, ob, es, ep, k _ _ (.inl rfl) e, c⟩
  | set S n => obtain ⟨ob, es, ep, t, e, c⟩ := x; exact ⟨ob, es, ep, t, k _ _ (.inl rfl) e, c⟩
  | ins C dx fs =>
    obtain ⟨d, z, ne, e, mA, ⟨od, es, ep, e2, c⟩, r⟩ := x
    exact ⟨ho _ d, z, ne, k _ _ (.inl rfl) e, mA, ⟨od, es, ep, k _ _ (.inr d) e2, c⟩, r⟩
  | own y => obtain ⟨ob, e⟩ := x; exact ⟨ob, k _ _ (.inl rfl) e⟩
  | xd fs => obtain ⟨mA, ⟨od, es, ep, e, c⟩, r⟩ := x; exact ⟨mA, ⟨od, es, ep, k _ _ (.inl rfl) e, c⟩, r⟩
  | rng lo hi => obtain ⟨t, u, v, e⟩ := x; exact ⟨t, u, v, k _ _ (.inl rfl) e⟩
  | frz ob u ih => obtain ⟨e, q⟩ := x; exact ⟨k _ _ (.inl rfl) e, ih q⟩
  | tbl ps =>
    have e : h.get? a = some { cls := .none, data := .fields ps } := x
    show h'.get? a = some { cls := .none, data := .fields ps }
    exact k a _ (.inl rfl) e
  | met f y =>
    have e : h.get? a = some (PySem.W.methodObj (.ref f) (.ref y)) := x
    show h'.get? a = some (PySem.W.methodObj (.ref f) (.ref y))
    exact k a _ (.inl rfl) e
  | ext φ => obtain ⟨p, ⟨o, e⟩, st⟩ := x; exact ⟨st _ _ p fun o q => k _ _ (.inl rfl) q, ⟨o, k _ _ (.inl rfl) e⟩, st⟩
theorem HOk.lt (x : HOk P w H h) (e : H a = some o) : a < h.objs.size := (x a o e).lt
theorem HOk.fresh (x : HOk P w H h) (e : h.objs.size ≤ a) : H a = none := by
  cases q : H a with
  | none => rfl
  | some u => exact absurd (Nat.lt_of_lt_of_le (x.lt q) e) (Nat.lt_irrefl _)
theorem HOk.kept (x : HOk P w H h) (k : ∀ b u, h.get? b = some u → h'.get? b = some u) : HOk P w H h' := fun a o e =>
  (x a o e).stay (fun b u _ q => k b u q) (fun _ q => q) fun _ _ q => q
theorem HOk.laid (x : HOk P w H h) (k : ∀ b u, h.get? b = some u → h'.get? b = some u) (hp : h.objs.size ≤ a) (new : ObjOk P w (upd H a o) h' a o) : HOk P w (upd H a o) h' := fun b u e => by
  have hn := x.fresh hp
  by_cases hb : b = a
  · subst hb; rw [upd_same] at e; cases e; exact new
  · rw [upd_ne hb] at e
    exact (x b u e).stay (fun c v _ q => k c v q) (fun c q => by rw [upd_ne (ne_of_none q hn)]; exact q) fun c xs q => by rw [upd_ne (ne_of_none q hn)]; exact q
end
noncomputable def Rd (H : Hp) (a : Addr) (u : HO) : Prop := H a = some u ∨ ∃ o, H a = some (.frz o u)
theorem Rd.ok {P : Program} {w : World} {H : Hp} {h : Heap} {a : Addr} {u : HO} (r : Rd H a u) (x : HOk P w H h) : ObjOk P w H h a u := by
  rcases r with r | ⟨o, r⟩
  · exact x a u r
  · obtain ⟨_, q⟩ := x a _ r
    exact q
noncomputable def Mut : Option HO → Prop
  | some (.lst _) => True
  | some (.dK _) => True
  | some (.dT _) => True
  | some (.set _ _) => True
  | some (.ins _ _ _) => True
  | some (.ext _) => True
  | _ => False
section
variable {P : Program} {w : World} {H : Hp} {h h' : Heap} {x e : Addr} {o' : HO}
theorem HOk.write (ok : HOk P w H h) (mu : Mut (H x)) (he : e = x ∨ H e = some (.own x)) (k : ∀ b u, b ≠ e → h.get? b = some u → h'.get? b = some u) (heo : ∃ u, h'.get? e = some u)
    (new : ObjOk P w (upd H x o') h' x o') : HOk P w (upd H x o') h' := fun b u q => by
  have nown : ∀ c y, H c = some (.own y) → c ≠ x := fun c y r z => by subst z; rw [r] at mu; exact mu
  have ntup : ∀ c xs, H c = some (.tup xs) → c ≠ x := fun c xs r z => by subst z; rw [r] at mu; exact mu
  by_cases hb : b = x
  · subst hb; rw [upd_same] at q; cases q; exact new
  · rw [upd_ne hb] at q
    by_cases hbe : b = e
    · have q' : H b = some (.own x) := by
        rcases he with z | z
        · exact absurd (hbe.trans z) hb
        · rw [hbe]; exact z
      rw [q] at q'; cases q'
      obtain ⟨v, hv⟩ := heo
      exact ⟨v, by rw [hbe]; exact hv⟩
    · refine (ok b u q).stay (fun c v hc r => k c v ?_ r) (fun c r => by rw [upd_ne (nown c b r)]; exact r) fun c xs r => by rw [upd_ne (ntup c xs r)]; exact r
      rcases hc with rfl | hc
      · exact hbe
      · rintro rfl
        rcases he with z | z
        · exact nown c b hc z
        · rw [hc] at z; cases z; exact hb rfl
end
/-! ### kept unless tracked; of the frames at fs (the callers') the slots may change (an exception that passes writes there); of the records at ex (iterators) nothing is said -/
structure Un (fs ex : List Addr) (H H' : Hp) (h h' : Heap) : Prop where
  keep : ∀ b o, h.get? b = some o → H b = none → b ∉ fs → b ∉ ex → h'.get? b = some o
  slot : ∀ b o, h.get? b = some o → H b = none → b ∈ fs → b ∉ ex → ∃ sl, h'.get? b = some { o with slots := sl }
  free : ∀ b o, h.get? b = some o → H b = none → b ∉ ex → H' b = none
  there : ∀ b o, h.get? b = some o → b ∉ ex → ∃ o', h'.get? b = some o'
  tups : ∀ b xs, H b = some (.tup xs) → H' b = some (.tup xs)
  frzs : ∀ b o u, H b = some (.frz o u) → H' b = some (.frz o u)
  tbls : ∀ b ps, H b = some (.tbl ps) → ∃ more, H' b = some (.tbl (ps ++ more))
section
variable {fs fs' ex ex' : List Addr} {H H1 H2 : Hp} {h h1 h2 h' : Heap} {a x e : Addr} {o : HO}
theorem Un.any (u : Un fs ex H H1 h h1) {b : Addr} {ob : Obj} (q : h.get? b = some ob) (n : H b = none) (hx : b ∉ ex) : ∃ sl, h1.get? b = some { ob with slots := sl } := by
  by_cases hb : b ∈ fs
  · exact u.slot b ob q n hb hx
  · exact ⟨ob.slots, u.keep b ob q n hb hx⟩
theorem Un.trans (a : Un fs ex H H1 h h1) (b : Un fs ex H1 H2 h1 h2) : Un fs ex H H2 h h2 where
  keep := fun c ob q n hc hx => b.keep c ob (a.keep c ob q n hc hx) (a.free c ob q n hx) hc hx
  slot := fun c ob q n hc hx => by
    obtain ⟨sl, e1⟩ := a.slot c ob q n hc hx
    obtain ⟨sl', e2⟩ := b.slot c _ e1 (a.free c ob q n hx) hc hx
    exact ⟨sl', e2⟩
  free := fun c ob q n hx => by
    obtain ⟨o', e1⟩ := a.there c ob q hx
    exact b.free c o' e1 (a.free c ob q n hx) hx
  there := fun c ob q hx => by
    obtain ⟨o', e1⟩ := a.there c ob q hx
    exact b.there c o' e1 hx
  tups := fun c xs q => b.tups c xs (a.tups c xs q)
  frzs := fun c ob xs q => b.frzs c ob xs (a.frzs c ob xs q)
  tbls := fun c ps q => by
    obtain ⟨m1, e1⟩ := a.tbls c ps q
    obtain ⟨m2, e2⟩ := b.tbls c _ e1
    exact ⟨m1 ++ m2, by rw [e2, Array.append_assoc]⟩
theorem Un.kept (k : ∀ b u, h.get? b = some u → h'.get? b = some u) : Un fs ex H H h h' :=
  ⟨fun b ob q _ _ _ => k b ob q, fun b ob q _ _ _ => ⟨ob.slots, k b ob q⟩, fun _ _ _ n _ => n, fun b ob q _ => ⟨ob, k b ob q⟩, fun _ _ q => q, fun _ _ _ q => q, fun _ ps q => ⟨#[], by rw [q]; simp⟩⟩
theorem Un.refl : Un fs ex H H h h := Un.kept fun _ _ q => q
theorem Un.laid (k : ∀ b u, h.get? b = some u → h'.get? b = some u) (hp : h.objs.size ≤ a) (hn : H a = none) : Un fs ex H (upd H a o) h h' where
  keep := fun b u q _ _ _ => k b u q
  slot := fun b u q _ _ _ => ⟨u.slots, k b u q⟩
  free := fun b u q n _ => by rw [upd_ne (Nat.ne_of_lt (Nat.lt_of_lt_of_le (Heap.lt_size q) hp))]; exact n
  there := fun b u q _ => ⟨u, k b u q⟩
  tups := fun b xs q => by rw [upd_ne (ne_of_none q hn)]; exact q
  frzs := fun b u xs q => by rw [upd_ne (ne_of_none q hn)]; exact q
  tbls := fun b ps q => ⟨#[], by rw [upd_ne (ne_of_none q hn), q]; simp⟩
theorem Un.write (mu : Mut (H x)) (he : e = x ∨ H e = some (.own x)) (k : ∀ b u, b ≠ e → h.get? b = some u → h'.get? b = some u) (heo : ∃ u, h'.get? e = some u) : Un fs ex H (upd H x o) h h' := by
  have hx : ∀ b, H b = none → b ≠ x := fun b n z => by subst z; rw [n] at mu; exact mu
  have hb : ∀ b, H b = none → b ≠ e := fun b n z => by
    subst z
    rcases he with r | r
    · exact hx b n r
    · rw [n] at r; cases r
  have hm : ∀ b u, H b = some u → ¬ Mut (some u) → b ≠ x := fun b u q nm z => by subst z; rw [q] at mu; exact nm mu
  refine ⟨fun b u q n _ _ => k b u (hb b n) q, fun b u q n _ _ => ⟨u.slots, k b u (hb b n) q⟩, fun b u q n _ => by rw [upd_ne (hx b n)]; exact n, fun b u q _ => ?_,
    fun b xs q => by rw [upd_ne (hm b _ q fun z => z)]; exact q, fun b u xs q => by rw [upd_ne (hm b _ q fun z => z)]; exact q, fun b ps q => ⟨#[], by rw [upd_ne (hm b _ q fun z => z), q]; simp⟩⟩
  by_cases hbe : b = e
  · subst hbe; exact heo
  · exact ⟨u, k b u hbe q⟩
end
/-! ### the heap without what is tracked -/
noncomputable def trk (h : Heap) (H : Hp) : List Addr := (List.range h.objs.size).filter fun a => (H a).isSome
noncomputable def hidT (h : Heap) (H : Hp) : Heap := PySem.W.hideAll h (trk h H)
theorem hidT_size (h : Heap) (H : Hp) : (hidT h H).objs.size = h.objs.size := PySem.W.hideAll_size _ _
theorem hidT_get {h : Heap} {H : Hp} {b : Addr} {o : Obj} (e : h.get? b = some o) (n : H b = none) : (hidT h H).get? b = some o :=
  PySem.W.hideAll_get _ e fun hm => by
    have q : (H b).isSome = true := (List.mem_filter.mp hm).2
    rw [n] at q; simp at q
theorem of_hidT {h : Heap} {H : Hp} {b : Addr} {o : Obj} (e : (hidT h H).get? b = some o) : h.get? b = some o ∧ H b = none := by
  have e' : h.get? b = some o := PySem.W.of_hideAll (trk h H) e
  refine ⟨e', ?_⟩
  cases q : H b with
  | none => rfl
  | some x =>
    have hm : b ∈ trk h H := List.mem_filter.mpr ⟨List.mem_range.mpr (Heap.lt_size e'), by simp [q]⟩
    have z : (hidT h H).get? b = none := PySem.W.hideAll_none (trk h H) hm
    rw [z] at e; cases e

/-! ### OpenK's ledger, filled with every new object but one -/
noncomputable def allNews (g h : Heap) (L : Addr) : List (Addr × Obj) := (List.range h.objs.size).filterMap fun a => if a = L ∨ (g.get? a).isSome = true then none else (h.get? a).map fun o => (a, o)
noncomputable def rest (g h : Heap) (L d : Addr) : List (Addr × Obj) := (allNews g h L).filter fun p => decide (p.1 ≠ d)
end L2
namespace L2
open PySem PySem.Spec PyProof.Rows
structure Mod (K : PySem.W.Frag) (mg : Str → Option Value) (base : Heap) : Prop where
  kin : K.In base
  glob : base.Ns mainGlobals mg
  blt : ∃ mb, base.Ns builtinsNs mb ∧ ∀ x : Str, x ≠ "__name__" → mb x = bootBuiltins x
  nolimit : base.NoLimit

structure Cx where
  prog : Program
  w : World
  K : PySem.W.Frag
  mg : Str → Option Value
  base : Heap
  A : Around
  N : List Str
  s₀ : Shared
  H₀ : Hp
  env : Env
  outer : List Env
  stack : List Env
  ex : List Addr
  fn : Str → Bool
  calm : Bool
  pn : List (Addr × Obj)
  xe : Value → Shared → Prop
noncomputable def frs (l : List Env) : List Addr := l.filterMap (·.frame)
noncomputable abbrev Cx.fs (X : Cx) : List Addr := frs X.outer

noncomputable def Vis (sc : Scope) (x : Str) : Prop := sc.names.lookup x = some .local ∨ sc.names.lookup x = some .cell ∨ sc.names.lookup x = some .free
noncomputable def Loc (sc : Scope) (x : Str) : Prop := sc.names.lookup x = some .local ∨ sc.names.lookup x = some .cell
noncomputable def Look (env : Env) (h : Heap) (m : Str → Option Value) (x : Str) (u : Value) : Prop :=
  (env.kindOf x = some .local ∧ m x = some u) ∨ ((env.kindOf x = some .cell ∨ env.kindOf x = some .free) ∧ ∃ c, env.cells.lookup x = some c ∧ h.IsCell c (some u))

structure Cx.Ok (X : Cx) : Prop where
  mod : Mod X.K X.mg X.base
  kind : X.env.scope.kind = .function
  glob : X.env.globals = mainGlobals
  blt : X.env.builtins = builtinsNs
  above : X.s₀.heap.objs.size ≤ X.env.locals
  inj : ∀ x y c, X.env.cells.lookup x = some c → X.env.cells.lookup y = some c → x = y
  has : ∀ x, (X.env.kindOf x = some .cell ∨ X.env.kindOf x = some .free) → ∃ c, X.env.cells.lookup x = some c
  cab : ∀ x c, X.fn x = true → X.env.cells.lookup x = some c → X.s₀.heap.objs.size ≤ c
  hd : X.calm = true → X.A.handled = none
  frames : X.A.frames = some X.stack
  stk : X.stack = X.outer ∨ (X.stack = X.env :: X.outer ∧ X.env.frame = some X.env.locals)
  exf : ∀ b ∈ X.ex, b ≠ X.env.locals ∧ ∀ x c, X.env.cells.lookup x = some c → c ≠ b
  bs : ∀ b o, X.base.get? b = some o → X.s₀.heap.get? b = some o ∧ X.H₀ b = none
  bsz : X.base.objs.size ≤ X.s₀.heap.objs.size
  noex : ∀ b o, X.base.get? b = some o → b ∉ X.ex
  exfs : ∀ b ∈ X.ex, b ∉ X.fs
  funs : X.s₀.heap.FunFrames X.base X.outer
  frf : ∀ b ∈ X.fs, X.H₀ b = none

structure Inv (X : Cx) (pins : List (Addr × Obj)) (σ : List (Option V)) (H : Hp) (s : Shared) : Prop where
  ok : X.Ok
  os : s.os = X.s₀.os
  bare : AllBare s.gens
  base : Un X.fs X.ex X.H₀ H X.s₀.heap s.heap
  loc : ∃ m, s.heap.Ns X.env.locals m ∧ ∀ (i : Nat) (x : Str) (v : V), X.N[i]? = some x → σ[i]? = some (some v) → Vis X.env.scope x → ∃ u, RelV v u ∧ Look X.env s.heap m x u
  cell : ∀ x c, X.env.cells.lookup x = some c → ∃ v, s.heap.IsCell c v
  free : H X.env.locals = none
  freeC : ∀ x c, X.env.cells.lookup x = some c → H c = none
  pin : ∀ p ∈ X.pn ++ pins, s.heap.get? p.1 = some p.2 ∧ H p.1 = none ∧ p.1 ≠ X.env.locals ∧ p.1 ∉ X.fs ∧ ∀ v, p.2.data ≠ .cell v
  hok : HOk X.prog X.w H s.heap
  len : σ.length = X.N.length

section
variable {X : Cx} {pins : List (Addr × Obj)} {σ : List (Option V)} {H H' : Hp} {s : Shared} {h' : Heap}
theorem Cx.Ok.nofr (ok : X.Ok) {b : Addr} {o : Obj} (e : X.base.get? b = some o) : b ∉ X.fs := fun hb => by
  have := (ok.funs.mem hb).1
  rw [e] at this; cases this
theorem Inv.bs (I : Inv X pins σ H s) : ∀ b o, X.base.get? b = some o → s.heap.get? b = some o ∧ H b = none := fun b o e =>
  ⟨I.base.keep b o (I.ok.bs b o e).1 (I.ok.bs b o e).2 (I.ok.nofr e) (I.ok.noex b o e), I.base.free b o (I.ok.bs b o e).1 (I.ok.bs b o e).2 (I.ok.noex b o e)⟩
theorem Inv.bk (I : Inv X pins σ H s) : ∀ b o, X.base.get? b = some o → s.heap.get? b = some o := fun b o e => (I.bs b o e).1
theorem Inv.mod (I : Inv X pins σ H s) : Mod X.K X.mg X.base := I.ok.mod
theorem Inv.kIn (I : Inv X pins σ H s) : X.K.In s.heap := I.ok.mod.kin.keeps I.bk
theorem Inv.nolimit (I : Inv X pins σ H s) : s.heap.NoLimit := I.ok.mod.nolimit.keeps I.bk
theorem Inv.lt (I : Inv X pins σ H s) : X.env.locals < s.heap.objs.size := let ⟨_, hn, _⟩ := I.loc; hn.lt
theorem Inv.sz (I : Inv X pins σ H s) : X.s₀.heap.objs.size ≤ s.heap.objs.size := Nat.le_trans I.ok.above (Nat.le_of_lt I.lt)
theorem Inv.nofs (I : Inv X pins σ H s) {a : Addr} (h : s.heap.objs.size ≤ a) : a ∉ X.fs := fun hb => by
  obtain ⟨_, o, ho, _⟩ := I.ok.funs.mem hb
  exact absurd (Nat.lt_of_lt_of_le (Heap.lt_size ho) (Nat.le_trans I.sz h)) (Nat.lt_irrefl _)
theorem Inv.cne (I : Inv X pins σ H s) : ∀ x c, X.env.cells.lookup x = some c → c ≠ X.env.locals := fun x c e z => by
  obtain ⟨v, o, ho, hd⟩ := I.cell x c e
  obtain ⟨m, ⟨o', es, ep, ho', hd', _⟩, _⟩ := I.loc
  rw [z, ho'] at ho; cases ho; rw [hd'] at hd; cases hd
theorem Inv.funs (I : Inv X pins σ H s) : s.heap.FunFrames X.base X.outer := by
  have all : ∀ (l : List Env), (∀ b ∈ frs l, b ∈ X.fs) → X.s₀.heap.FunFrames X.base l → s.heap.FunFrames X.base l := by
    intro l
    induction l with
    | nil => intro _ _; trivial
    | cons env r ih =>
      intro hs hl
      obtain ⟨hk, ⟨L, o, hf, hn, ho, hd⟩, hr⟩ := hl
      have hL : L ∈ X.fs := hs L (by unfold frs; rw [List.filterMap_cons, hf]; exact List.mem_cons_self)
      obtain ⟨sl, e⟩ := I.base.slot L o ho (I.ok.frf L hL) hL fun z => I.ok.exfs L z hL
      exact ⟨hk, ⟨L, _, hf, hn, e, hd⟩, ih (fun b hb => hs b (by unfold frs; rw [List.filterMap_cons, hf]; exact List.mem_cons_of_mem _ hb)) hr⟩
  exact all X.outer (fun _ hb => hb) I.ok.funs

theorem Inv.stack (I : Inv X pins σ H s) : s.heap.FunFrames X.base X.stack := by
  rcases I.ok.stk with e | ⟨e, hf⟩
  · rw [e]; exact I.funs
  · rw [e]
    obtain ⟨m, hn, _⟩ := I.loc
    refine .cons (by rw [I.ok.kind]; decide) hf hn ?_ I.funs
    exact Heap.get?_none_of_le (Nat.le_trans I.ok.bsz I.ok.above)
theorem Inv.stkSub (I : Inv X pins σ H s) : ∀ b ∈ frs X.stack, b ∈ X.env.locals :: X.fs := fun b hb => by
  rcases I.ok.stk with e | ⟨e, hf⟩
  · rw [e] at hb; exact List.mem_cons_of_mem _ hb
  · rw [e] at hb
    unfold frs at hb
    rw [List.filterMap_cons, hf] at hb
    exact hb
theorem Inv.stkFree (I : Inv X pins σ H s) : ∀ b ∈ frs X.stack, H b = none := fun b hb => by
  rcases List.mem_cons.mp (I.stkSub b hb) with e | hb
  · rw [e]; exact I.free
  · obtain ⟨_, o, ho, _⟩ := I.ok.funs.mem hb
    exact I.base.free b o ho (I.ok.frf b hb) fun z => I.ok.exfs b z hb

theorem Inv.step {g' : Array GenState} {t' : Nat} {d' : Drawn} {ch : List Addr} (I : Inv X pins σ H s)
    (hch : ∀ b ∈ ch, (b ∈ X.ex ∨ X.s₀.heap.get? b = none) ∧ b ≠ X.env.locals ∧ (∀ x c, X.env.cells.lookup x = some c → c ≠ b) ∧ ∀ p ∈ X.pn ++ pins, p.1 ≠ b)
    (keep : ∀ b o, b ≠ X.env.locals → b ∉ X.fs → b ∉ ch → s.heap.get? b = some o → H b = none → h'.get? b = some o)
    (slot : ∀ b o, b ≠ X.env.locals → b ∈ X.fs → b ∉ ch → s.heap.get? b = some o → H b = none → ∃ sl, h'.get? b = some { o with slots := sl }) (free : ∀ b o, b ∉ ch → s.heap.get? b = some o → H b = none → H' b = none)
    (there : ∀ b o, b ∉ ch → s.heap.get? b = some o → ∃ o', h'.get? b = some o')
    (tups : ∀ b xs, H b = some (.tup xs) → H' b = some (.tup xs)) (frzs : ∀ b o u, H b = some (.frz o u) → H' b = some (.frz o u)) (tbls : ∀ b ps, H b = some (.tbl ps) → ∃ more, H' b = some (.tbl (ps ++ more)))
    (ns : ∀ m, s.heap.Ns X.env.locals m → h'.Ns X.env.locals m) (hok : HOk X.prog X.w H' h') (hg : AllBare g') :
    Inv X pins σ H' { s with heap := h', gens := g', drawn := d', toks := t' } := by
  have neL : ∀ b o, X.s₀.heap.get? b = some o → b ≠ X.env.locals := fun b o e => Nat.ne_of_lt (Nat.lt_of_lt_of_le (Heap.lt_size e) I.ok.above)
  have neC : ∀ b o, X.s₀.heap.get? b = some o → b ∉ X.ex → b ∉ ch := fun b o e hx hb => by
    rcases (hch b hb).1 with z | z
    · exact hx z
    · rw [z] at e; cases e
  have cellK : ∀ x c, X.env.cells.lookup x = some c → ∀ v, s.heap.IsCell c v → h'.IsCell c v := fun x c e v ⟨o, ho, hd⟩ => by
    have nch : c ∉ ch := fun z => (hch c z).2.2.1 x c e rfl
    by_cases hc : c ∈ X.fs
    · obtain ⟨sl, q⟩ := slot c o (I.cne x c e) hc nch ho (I.freeC x c e)
      exact ⟨_, q, hd⟩
    · exact ⟨o, keep c o (I.cne x c e) hc nch ho (I.freeC x c e), hd⟩
  refine ⟨I.ok, I.os, hg, ⟨fun b o e n hb hx => ?_, fun b o e n hb hx => ?_, fun b o e n hx => ?_, fun b o e hx => ?_, fun b xs e => tups b xs (I.base.tups b xs e), fun b o xs e => frzs b o xs (I.base.frzs b o xs e), fun b ps e => ?_⟩, ?_, fun x c e => ?_, ?_, fun x c e => ?_, fun p hp => ?_, hok, I.len⟩
  · exact keep b o (neL b o e) hb (neC b o e hx) (I.base.keep b o e n hb hx) (I.base.free b o e n hx)
  · obtain ⟨sl, e1⟩ := I.base.slot b o e n hb hx
    obtain ⟨sl', e2⟩ := slot b _ (neL b o e) hb (neC b o e hx) e1 (I.base.free b o e n hx)
    exact ⟨sl', e2⟩
  · obtain ⟨o', e1⟩ := I.base.there b o e hx
    exact free b o' (neC b o e hx) e1 (I.base.free b o e n hx)
  · obtain ⟨o', e1⟩ := I.base.there b o e hx
    exact there b o' (neC b o e hx) e1
  · obtain ⟨m1, e1⟩ := I.base.tbls b ps e
    obtain ⟨m2, e2⟩ := tbls b _ e1
    exact ⟨m1 ++ m2, by rw [e2, Array.append_assoc]⟩
  · obtain ⟨m, hn, hl⟩ := I.loc
    refine ⟨m, ns m hn, fun i x v e1 e2 e3 => ?_⟩
    obtain ⟨u, r, l⟩ := hl i x v e1 e2 e3
    refine ⟨u, r, ?_⟩
    rcases l with l | ⟨k, c, e, z⟩
    · exact .inl l
    · exact .inr ⟨k, c, e, cellK x c e _ z⟩
  · obtain ⟨v, z⟩ := I.cell x c e
    exact ⟨v, cellK x c e v z⟩
  · obtain ⟨m, ⟨o, _, _, ho, _⟩, _⟩ := I.loc
    exact free _ o (fun z => (hch _ z).2.1 rfl) ho I.free
  · obtain ⟨v, o, ho, hd⟩ := I.cell x c e
    exact free c o (fun z => (hch c z).2.2.1 x c e rfl) ho (I.freeC x c e)
  · obtain ⟨e, n, ne, nf, d⟩ := I.pin p hp
    have nch : p.1 ∉ ch := fun z => (hch p.1 z).2.2.2 p hp rfl
    exact ⟨keep p.1 p.2 ne nf nch e n, free p.1 p.2 nch e n, ne, nf, d⟩
theorem Inv.un {t' : Nat} (I : Inv X pins σ H s) (u : Un X.fs [] H H' s.heap h') (hok : HOk X.prog X.w H' h') : Inv X pins σ H' { s with heap := h', toks := t' } := by
  obtain ⟨m, ⟨o, es, ep, ho, r⟩, _⟩ := id I.loc
  obtain ⟨sl, hL⟩ := u.any ho I.free (by simp)
  exact I.step (g' := s.gens) (d' := s.drawn) (ch := []) (fun _ z => nomatch z) (fun b o _ hb _ e n => u.keep b o e n hb (by simp)) (fun b o _ hb _ e n => u.slot b o e n hb (by simp)) (fun b o _ e n => u.free b o e n (by simp)) (fun b o _ e => u.there b o e (by simp)) u.tups u.frzs u.tbls (fun m' hm => by
    obtain ⟨o', es', ep', ho', r'⟩ := hm
    rw [ho] at ho'; cases ho'
    exact ⟨_, es', ep', hL, r'⟩) hok I.bare
theorem Inv.call {g' : Array GenState} {t' : Nat} {d' : Drawn} {ch : List Addr} (I : Inv X pins σ H s) (u : Un (frs X.stack) ch H H' s.heap h') (hok : HOk X.prog X.w H' h') (hg : AllBare g')
    (hch : ∀ b ∈ ch, (b ∈ X.ex ∨ X.s₀.heap.objs.size ≤ b) ∧ b ≠ X.env.locals ∧ (∀ x c, X.env.cells.lookup x = some c → c ≠ b) ∧ ∀ p ∈ X.pn ++ pins, p.1 ≠ b) :
    Inv X pins σ H' { s with heap := h', gens := g', drawn := d', toks := t' } := by
  obtain ⟨m, ⟨o, es, ep, ho, r⟩, _⟩ := id I.loc
  obtain ⟨sl, hL⟩ := u.any ho I.free fun z => (hch _ z).2.1 rfl
  exact I.step (ch := ch) (fun b hb => ⟨(hch b hb).1.imp_right fun z => Heap.get?_none_of_le z, (hch b hb).2⟩) (fun b o hL hb hc e n => u.keep b o e n (fun z => (List.mem_cons.mp (I.stkSub b z)).elim hL hb) hc) (fun b o _ _ hc e n => u.any e n hc) (fun b o hc e n => u.free b o e n hc) (fun b o hc e => u.there b o e hc) u.tups u.frzs u.tbls (fun m' hm => by
    obtain ⟨o', es', ep', ho', r'⟩ := hm
    rw [ho] at ho'; cases ho'
    exact ⟨_, es', ep', hL, r'⟩) hok hg
theorem Inv.turned {t' : Nat} {it : Addr} (I : Inv X pins σ H s) (k : ∀ b o, b ≠ it → s.heap.get? b = some o → h'.get? b = some o) (hn : H it = none) (hL : it ≠ X.env.locals)
    (h1 : it ∈ X.ex ∨ X.s₀.heap.objs.size ≤ it) (h2 : ∀ x c, X.env.cells.lookup x = some c → c ≠ it) (h3 : ∀ p ∈ X.pn ++ pins, p.1 ≠ it) : Inv X pins σ H { s with heap := h', toks := t' } := by
  have nit : ∀ b u, H b = some u → b ≠ it := fun b u e z => by rw [z, hn] at e; cases e
  refine I.step (g' := s.gens) (d' := s.drawn) (ch := [it]) (fun b hb => ?_) (fun b o _ _ hc e _ => k b o (fun z => hc (by simp [z])) e) (fun b o _ _ hc e _ => ⟨o.slots, k b o (fun z => hc (by simp [z])) e⟩) (fun _ _ _ _ n => n)
    (fun b o hc e => ⟨o, k b o (fun z => hc (by simp [z])) e⟩) (fun _ _ e => e) (fun _ _ _ e => e) (fun b ps e => ⟨#[], by rw [e]; simp⟩) (fun m hm => ?_) (fun b u e => ?_) I.bare
  · have e : b = it := by simpa using hb
    subst e
    exact ⟨h1.imp_right fun z => Heap.get?_none_of_le z, hL, h2, h3⟩
  · obtain ⟨o, es, ep, ho, r⟩ := hm
    exact ⟨o, es, ep, k _ o (Ne.symm hL) ho, r⟩
  · refine (I.hok b u e).stay (fun c v hc q => k c v ?_ q) (fun _ q => q) fun _ _ q => q
    rcases hc with z | z
    · rw [z]; exact nit b u e
    · exact nit c _ z
theorem Inv.tok (I : Inv X pins σ H s) (t : Nat) : Inv X pins σ H { s with toks := t } := I.un (h' := s.heap) (t' := t) Un.refl I.hok
theorem Inv.kept {t' : Nat} (I : Inv X pins σ H s) (k : ∀ b u, s.heap.get? b = some u → h'.get? b = some u) : Inv X pins σ H { s with heap := h', toks := t' } := I.un (Un.kept k) (I.hok.kept k)
theorem Inv.laid {a : Addr} {o : HO} {t' : Nat} (I : Inv X pins σ H s) (k : ∀ b u, s.heap.get? b = some u → h'.get? b = some u) (hp : s.heap.objs.size ≤ a) (new : ObjOk X.prog X.w (upd H a o) h' a o) :
    Inv X pins σ (upd H a o) { s with heap := h', toks := t' } := I.un (Un.laid k hp (I.hok.fresh hp)) (I.hok.laid k hp new)
theorem Inv.write {x e : Addr} {o : HO} {t' : Nat} (I : Inv X pins σ H s) (mu : Mut (H x)) (he : e = x ∨ H e = some (.own x)) (k : ∀ b u, b ≠ e → s.heap.get? b = some u → h'.get? b = some u) (heo : ∃ u, h'.get? e = some u)
    (new : ObjOk X.prog X.w (upd H x o) h' x o) : Inv X pins σ (upd H x o) { s with heap := h', toks := t' } := I.un (Un.write mu he k heo) (I.hok.write mu he k heo new)
theorem Inv.pins_of {pins' : List (Addr × Obj)} (I : Inv X pins σ H s) (h : ∀ p ∈ pins', s.heap.get? p.1 = some p.2 ∧ H p.1 = none ∧ p.1 ≠ X.env.locals ∧ p.1 ∉ X.fs ∧ ∀ v, p.2.data ≠ .cell v) : Inv X pins' σ H s :=
  ⟨I.ok, I.os, I.bare, I.base, I.loc, I.cell, I.free, I.freeC, fun p hp => (List.mem_append.mp hp).elim (fun z => I.pin p (List.mem_append_left _ z)) (h p), I.hok, I.len⟩

theorem nodup_ix {N : List Str} (hN : N.Nodup) {i j : Nat} {x : Str} (a : N[i]? = some x) (b : N[j]? = some x) : i = j := by
  obtain ⟨h1, e1⟩ := List.getElem?_eq_some_iff.mp a
  obtain ⟨h2, e2⟩ := List.getElem?_eq_some_iff.mp b
  exact (List.getElem_inj hN).mp (e1.trans e2.symm)

theorem store_ok2 {M : Model} {A : Around} {E : Value → Shared → Prop} {i : Nat} {x : Str} {v : V} {u : Value} {Q : Unit → Shared → Prop} (I : Inv X pins σ H s) (hN : X.N.Nodup) (hi : X.N[i]? = some x) (hx : Loc X.env.scope x) (r : RelV v u)
    (h : ∀ s', Inv X pins (σ.set i (some v)) H s' → (∃ a, Heap.SameBut a s.heap s'.heap ∧ (a = X.env.locals ∨ X.env.cells.lookup x = some a)) → Q () s') (hf : X.fn x = true ∨ X.env.scope.names.lookup x = some .local := by first | exact .inl rfl | exact .inr rfl | assumption) : wpAny M A (storeName X.env x u) Q E s := by
  obtain ⟨m, hn, hl⟩ := id I.loc
  have hcls : (X.env.scope.kind == .class || (X.env.scope.kind == .module && X.env.locals != X.env.globals)) = false := by rw [I.ok.kind]; rfl
  have hiσ : i < σ.length := by rw [I.len]; exact (List.getElem?_eq_some_iff.mp hi).1
  have cne := I.cne
  have tracked : ∀ {a : Addr} {h' : Heap}, (∃ o, s.heap.get? a = some o ∧ H a = none) → Heap.SameBut a s.heap h' → HOk X.prog X.w H h' := fun {a h'} ha hs b ob e => by
    obtain ⟨_, _, hfree⟩ := ha
    refine (I.hok b ob e).stay (fun c w' hc q => (hs.2 c ?_).trans q) (fun _ q => q) fun _ _ q => q
    rintro rfl
    rcases hc with rfl | hc
    · rw [hfree] at e; cases e
    · rw [hfree] at hc; cases hc
  rcases hx with hk | hk
  · refine wpAny_storeName_local hk hn (fun h' hn' hs => ?_) hcls
    obtain ⟨oL, _, _, hoL, _⟩ := id hn
    refine h _ ⟨I.ok, I.os, I.bare, ⟨fun b o e n hb hx => ?_, fun b o e n hb hx => ?_, I.base.free, fun b o e hx => ?_, I.base.tups, I.base.frzs, I.base.tbls⟩, ⟨_, hn', fun j y v' e1 e2 e3 => ?_⟩, fun y c e => ?_, I.free, I.freeC, fun p hp => ?_, tracked ⟨oL, hoL, I.free⟩ hs, by simpa using I.len⟩ ⟨_, hs, .inl rfl⟩
    · exact (hs.2 b (Nat.ne_of_lt (Nat.lt_of_lt_of_le (Heap.lt_size e) I.ok.above))).trans (I.base.keep b o e n hb hx)
    · obtain ⟨sl, e1⟩ := I.base.slot b o e n hb hx
      exact ⟨sl, (hs.2 b (Nat.ne_of_lt (Nat.lt_of_lt_of_le (Heap.lt_size e) I.ok.above))).trans e1⟩
    · obtain ⟨o', e1⟩ := I.base.there b o e hx
      exact ⟨o', (hs.2 b (Nat.ne_of_lt (Nat.lt_of_lt_of_le (Heap.lt_size e) I.ok.above))).trans e1⟩
    · by_cases hj : j = i
      · subst hj
        rw [hi] at e1; cases e1
        rw [List.getElem?_set_self hiσ] at e2
        cases e2
        exact ⟨u, r, .inl ⟨hk, by simp⟩⟩
      · rw [List.getElem?_set_ne (Ne.symm hj)] at e2
        obtain ⟨u', r', q⟩ := hl j y v' e1 e2 e3
        refine ⟨u', r', ?_⟩
        rcases q with ⟨k, e⟩ | ⟨k, c, e, z⟩
        · refine .inl ⟨k, ?_⟩
          have : y ≠ x := fun e => hj (nodup_ix hN e1 (e ▸ hi))
          simp [this, e]
        · exact .inr ⟨k, c, e, z.sameBut hs (cne y c e)⟩
    · obtain ⟨w', z⟩ := I.cell y c e
      exact ⟨w', z.sameBut hs (cne y c e)⟩
    · obtain ⟨e, n, ne, nf, d⟩ := I.pin p hp
      exact ⟨(hs.2 p.1 ne).trans e, n, ne, nf, d⟩
  · have hfn : X.fn x = true := by
      rcases hf with z | z
      · exact z
      · rw [z] at hk; cases hk
    obtain ⟨c, hc⟩ := I.ok.has x (.inl hk)
    obtain ⟨w', z⟩ := I.cell x c hc
    refine wpAny_storeName_cell I.ok.kind hk hc z (fun h' hc' hs => ?_)
    obtain ⟨oc, hoc, hocd⟩ := id z
    refine h { s with heap := h' } ⟨I.ok, I.os, I.bare, ⟨fun b o e n hb hx => ?_, fun b o e n hb hx => ?_, I.base.free, fun b o e hx => ?_, I.base.tups, I.base.frzs, I.base.tbls⟩, ⟨m, hn.sameBut hs (Ne.symm (cne x c hc)), fun j y v' e1 e2 e3 => ?_⟩, fun y c' e => ?_, I.free, I.freeC, fun p hp => ?_, tracked ⟨oc, hoc, I.freeC x c hc⟩ hs, by simpa using I.len⟩ ⟨c, hs, .inr hc⟩
    · exact (hs.2 b (Nat.ne_of_lt (Nat.lt_of_lt_of_le (Heap.lt_size e) (I.ok.cab x c hfn hc)))).trans (I.base.keep b o e n hb hx)
    · obtain ⟨sl, e1⟩ := I.base.slot b o e n hb hx
      exact ⟨sl, (hs.2 b (Nat.ne_of_lt (Nat.lt_of_lt_of_le (Heap.lt_size e) (I.ok.cab x c hfn hc)))).trans e1⟩
    · obtain ⟨o', e1⟩ := I.base.there b o e hx
      exact ⟨o', (hs.2 b (Nat.ne_of_lt (Nat.lt_of_lt_of_le (Heap.lt_size e) (I.ok.cab x c hfn hc)))).trans e1⟩
    · by_cases hj : j = i
      · subst hj
        rw [hi] at e1; cases e1
        rw [List.getElem?_set_self hiσ] at e2
        cases e2
        exact ⟨u, r, .inr ⟨.inl hk, c, hc, hc'⟩⟩
      · rw [List.getElem?_set_ne (Ne.symm hj)] at e2
        obtain ⟨u', r', q⟩ := hl j y v' e1 e2 e3
        refine ⟨u', r', ?_⟩
        rcases q with q | ⟨k, c', e, z'⟩
        · exact .inl q
        · refine .inr ⟨k, c', e, z'.sameBut hs ?_⟩
          rintro rfl
          exact hj (nodup_ix hN e1 (I.ok.inj _ _ _ e hc ▸ hi))
    · by_cases hcc : c' = c
      · subst hcc; exact ⟨_, hc'⟩
      · obtain ⟨w2, z2⟩ := I.cell y c' e
        exact ⟨w2, z2.sameBut hs hcc⟩
    · obtain ⟨e, n, ne, nf, d⟩ := I.pin p hp
      refine ⟨(hs.2 p.1 ?_).trans e, n, ne, nf, d⟩
      intro q
      rw [q, hoc] at e
      have q' : oc = p.2 := Option.some.inj e
      exact d w' (by rw [← q']; exact hocd)
theorem store_ok {M : Model} {A : Around} {E : Value → Shared → Prop} {i : Nat} {x : Str} {v : V} {u : Value} {Q : Unit → Shared → Prop} (I : Inv X pins σ H s) (hN : X.N.Nodup) (hi : X.N[i]? = some x) (hx : Loc X.env.scope x) (r : RelV v u)
    (h : ∀ s', Inv X pins (σ.set i (some v)) H s' → Q () s') (hf : X.fn x = true ∨ X.env.scope.names.lookup x = some .local := by first | exact .inl rfl | exact .inr rfl | assumption) : wpAny M A (storeName X.env x u) Q E s :=
  store_ok2 I hN hi hx r (fun s' I' _ => h s' I') hf
theorem Inv.call' {s' : Shared} {ch : List Addr} (I : Inv X pins σ H s) (ho : s'.os = s.os) (u : Un (frs X.stack) ch H H' s.heap s'.heap) (hok : HOk X.prog X.w H' s'.heap) (hg : AllBare s'.gens)
    (hch : ∀ b ∈ ch, (b ∈ X.ex ∨ X.s₀.heap.objs.size ≤ b) ∧ b ≠ X.env.locals ∧ (∀ x c, X.env.cells.lookup x = some c → c ≠ b) ∧ ∀ p ∈ X.pn ++ pins, p.1 ≠ b) : Inv X pins σ H' s' := by
  obtain ⟨h', g', d', t', o'⟩ := s'
  have e : o' = s.os := ho
  subst e
  exact I.call (g' := g') (t' := t') (d' := d') u hok hg hch
end
/-! ### the judgements -/
noncomputable abbrev XK := Value → Option Addr → Hp → Prop
noncomputable abbrev St := List (Option V)
noncomputable abbrev VK := V → Hp → Prop
noncomputable abbrev TE := St → Hp → VK → Prop
noncomputable abbrev TT := St → Hp → (Bool → Hp → Prop) → Prop
noncomputable abbrev TA := St → Hp → (List V → Hp → Prop) → Prop
structure Ends where
  nx : St → Hp → Prop
  rt : VK
  bk : St → Hp → Prop := fun _ _ => False
  ct : St → Hp → Prop := fun _ _ => False
noncomputable abbrev TS := Ends → St → Hp → Prop

noncomputable def EP (X : Cx) (pins : List (Addr × Obj)) (σ : St) (Q : VK) (u : Value) (s' : Shared) : Prop := ∃ v H', Inv X pins σ H' s' ∧ RelV v u ∧ Q v H'
noncomputable def TP (X : Cx) (pins : List (Addr × Obj)) (σ : St) (Q : Bool → Hp → Prop) (b : Bool) (s' : Shared) : Prop := ∃ H', Inv X pins σ H' s' ∧ Q b H'
noncomputable def AP (X : Cx) (pins : List (Addr × Obj)) (σ : St) (Q : List V → Hp → Prop) (us : List Value) (s' : Shared) : Prop := ∃ vs H', Inv X pins σ H' s' ∧ Vals vs us ∧ Q vs H'
noncomputable def SP (X : Cx) (pins : List (Addr × Obj)) (D : Ends) (f : Flow) (s' : Shared) : Prop :=
  match f with
  | .next => ∃ σ' H', Inv X pins σ' H' s' ∧ D.nx σ' H'
  | .brk => ∃ σ' H', Inv X pins σ' H' s' ∧ D.bk σ' H'
  | .cont => ∃ σ' H', Inv X pins σ' H' s' ∧ D.ct σ' H'
  | .ret u => ∃ v σ' H', Inv X pins σ' H' s' ∧ RelV v u ∧ D.rt v H'

noncomputable def PE (X : Cx) (e : Expr) (t : TE) : Prop :=
  ∀ (pins : List (Addr × Obj)) (s : Shared) (σ : St) (H : Hp) (Q : VK), Inv X pins σ H s → t σ H Q → wpAny (model X.prog X.w) X.A (eval e X.env) (EP X pins σ Q) X.xe s
noncomputable def PT (X : Cx) (e : Expr) (t : TT) : Prop :=
  ∀ (pins : List (Addr × Obj)) (s : Shared) (σ : St) (H : Hp) (Q : Bool → Hp → Prop), Inv X pins σ H s → t σ H Q → wpAny (model X.prog X.w) X.A (isTrue e X.env (eval e X.env)) (TP X pins σ Q) X.xe s
noncomputable def PW (X : Cx) (e : Expr) (t : TT) : Prop :=
  ∀ (whole : Sem Value) (pins : List (Addr × Obj)) (s : Shared) (σ : St) (H : Hp) (Q : Bool → Hp → Prop), Inv X pins σ H s → t σ H Q → wpAny (model X.prog X.w) X.A (isTrue e X.env whole) (TP X pins σ Q) X.xe s
theorem PW.pt {X : Cx} {e : Expr} {t : TT} (h : PW X e t) : PT X e t := h _
noncomputable def PA (X : Cx) (es : List Expr) (t : TA) : Prop :=
  ∀ (pos : Pos) (pins : List (Addr × Obj)) (s : Shared) (σ : St) (H : Hp) (Q : List V → Hp → Prop), Inv X pins σ H s → t σ H Q → wpAny (model X.prog X.w) X.A (spliced (backTo pos (starEach es X.env))) (AP X pins σ Q) X.xe s
noncomputable def PS (X : Cx) (st : Stmt) (t : TS) : Prop :=
  ∀ (pins : List (Addr × Obj)) (s : Shared) (σ : St) (H : Hp) (D : Ends), Inv X pins σ H s → t D σ H → wpAny (model X.prog X.w) X.A (exec st X.env) (SP X pins D) X.xe s
noncomputable def PSs (X : Cx) (st : List Stmt) (t : TS) : Prop :=
  ∀ (pins : List (Addr × Obj)) (s : Shared) (σ : St) (H : Hp) (D : Ends), Inv X pins σ H s → t D σ H → wpAny (model X.prog X.w) X.A (execs st X.env) (SP X pins D) X.xe s
theorem thn {α : Type} {t : Sem α} {Q Q' : α → Shared → Prop} {M : Model} {A : Around} {E : Value → Shared → Prop} {s : Shared} (h : wpAny M A t Q E s) (hQ : ∀ a s, Q a s → Q' a s) : wpAny M A t Q' E s := wpAny_mono h hQ fun _ _ x => x
end L2
namespace L2
open PySem PySem.Spec PyProof.Rows
section
variable {X : Cx}
theorem bin {a b : Expr} {ta tb : TE} (ha : PE X a ta) (hb : PE X b tb) {pins : List (Addr × Obj)} {s : Shared} {σ : St} {H : Hp} {R : V → V → Hp → Prop} (I : Inv X pins σ H s) (h : ta σ H fun x H1 => tb σ H1 fun y H2 => R x y H2)
    {α : Type} {Q : α → Shared → Prop} {f : Value → Value → Sem α}
    (hf : ∀ v u s2 x y H2, Inv X pins σ H2 s2 → RelV x v → RelV y u → R x y H2 → wpAny (model X.prog X.w) X.A (f v u) Q X.xe s2) :
    wpAny (model X.prog X.w) X.A (eval a X.env) (fun v s₁ => wpAny (model X.prog X.w) X.A (eval b X.env) (fun u s₂ => wpAny (model X.prog X.w) X.A (f v u) Q X.xe s₂) X.xe s₁) X.xe s := by
  refine thn (ha pins s σ H _ I h) fun v s1 ⟨x, H1, I1, r1, q1⟩ => ?_
  refine thn (hb pins s1 σ H1 _ I1 q1) fun u s2 ⟨y, H2, I2, r2, q2⟩ => ?_
  exact hf v u s2 x y H2 I2 r1 r2 q2

/-! ### names and constants -/
noncomputable def tVar (i : Nat) : TE := fun σ H Q => ∃ v, σ[i]? = some (some v) ∧ Q v H
noncomputable def tC (v : V) : TE := fun _ H Q => Q v H
theorem pe_var {i : Nat} {x : Str} {pos : Pos} (hN : X.N[i]? = some x) (hv : Vis X.env.scope x) (hd : (x == ("__debug__" : Str)) = false := by decide) (hcd : (x == ("__classdict__" : Str)) = false := by decide) : PE X (.Name x pos) (tVar i) := by
  intro pins s σ H Q I h
  obtain ⟨v, e, h⟩ := h
  obtain ⟨m, hn, hl⟩ := I.loc
  obtain ⟨u, r, l⟩ := hl i x v hN e hv
  have fin : EP X pins σ Q u s := ⟨v, H, I, r, h⟩
  rcases l with ⟨hk, hm⟩ | ⟨hk, c, hc, hcell⟩
  · exact wpAny_Name (wpAny_loadName_local I.ok.kind hk hn hm fin) hd
  · rcases hk with hk | hk
    · exact wpAny_Name (wpAny_loadName_cell I.ok.kind hk hc hcell fin) hd
    · exact wpAny_Name (wpAny_loadName_free I.ok.kind hk hc hcell fin hcd) hd
theorem pe_int {i j pos} : PE X (.Constant (.int i) j pos) (tC (.int i)) := fun _ _ _ H _ I h => wpAny_Constant_int ⟨.int i, H, I.tok _, ⟨_, rfl⟩, h⟩
theorem pe_bl {b j pos} : PE X (.Constant (.bool b) j pos) (tC (.bl b)) := fun _ _ _ H _ I h => Constant_bool ⟨.bl b, H, I, rfl, h⟩
theorem pe_non {j pos} : PE X (.Constant .none j pos) (tC .non) := fun _ _ _ H _ I h => Constant_none ⟨.non, H, I, rfl, h⟩
theorem pe_str {x j pos} : PE X (.Constant (.str x) j pos) (tC (.str x)) := fun _ _ _ H _ I h => Calls.Constant_str ⟨.str x, H, I.tok _, ⟨_, rfl⟩, h⟩

noncomputable def Gl (X : Cx) (x : Str) : Prop := X.env.kindOf x = some .globalImplicit
theorem ld_glob {E : Value → Shared → Prop} {pins : List (Addr × Obj)} {s : Shared} {σ : St} {H : Hp} {x : Str} {u : Value} {pos : Pos} {Q : Value → Shared → Prop} (I : Inv X pins σ H s) (hg : Gl X x) (hm : X.mg x = some u) (h : Q u s)
    (hd : (x == ("__debug__" : Str)) = false := by decide) : wpAny (model X.prog X.w) X.A (eval (.Name x pos) X.env) Q E s :=
  Calls.Name_function_global I.ok.kind hg (Calls.loadGlobal_global (by rw [I.ok.glob]; exact I.mod.glob.keeps I.bk) hm h) hd
theorem ld_blt {E : Value → Shared → Prop} {pins : List (Addr × Obj)} {s : Shared} {σ : St} {H : Hp} {x : Str} {u : Value} {pos : Pos} {Q : Value → Shared → Prop} (I : Inv X pins σ H s) (hg : Gl X x) (hm : X.mg x = none) (hv : bootBuiltins x = some u) (h : Q u s)
    (hn : x ≠ "__name__" := by decide) (hd : (x == ("__debug__" : Str)) = false := by decide) : wpAny (model X.prog X.w) X.A (eval (.Name x pos) X.env) Q E s := by
  obtain ⟨mb, h1, h2⟩ := I.mod.blt
  exact Calls.Name_function_global I.ok.kind hg (Calls.loadGlobal_builtin (by rw [I.ok.glob]; exact I.mod.glob.keeps I.bk) hm (by rw [I.ok.blt]; exact h1.keeps I.bk) ((h2 x hn).trans hv) h) hd
theorem pe_glob {x : Str} {v : V} {u : Value} {pos : Pos} (hg : Gl X x) (hm : X.mg x = some u) (r : RelV v u) (hd : (x == ("__debug__" : Str)) = false := by decide) : PE X (.Name x pos) (tC v) :=
  fun _ _ _ H _ I h => ld_glob I hg hm ⟨v, H, I, r, h⟩ hd
theorem pe_bltn {x : Str} {v : V} {u : Value} {pos : Pos} (hg : Gl X x) (hm : X.mg x = none) (hv : bootBuiltins x = some u) (r : RelV v u) (hn : x ≠ "__name__" := by decide) (hd : (x == ("__debug__" : Str)) = false := by decide) : PE X (.Name x pos) (tC v) :=
  fun _ _ _ H _ I h => ld_blt I hg hm hv ⟨v, H, I, r, h⟩ hn hd

/-! ### arithmetic -/
variable {a b : Expr} {ta tb : TE} {pos : Pos}
/-! ### comparisons -/
noncomputable def PC (X : Cx) (op : CmpOp) (a b : Expr) (t : TE) : Prop :=
  ∀ (pins : List (Addr × Obj)) (s : Shared) (σ : St) (H : Hp) (Q : VK), Inv X pins σ H s → t σ H Q →
    wpAny (model X.prog X.w) X.A (eval a X.env) (fun v s₁ => wpAny (model X.prog X.w) X.A (eval b X.env) (fun u s₂ => wpAny (model X.prog X.w) X.A (compareOp op v u) (EP X pins σ Q) X.xe s₂) X.xe s₁) X.xe s
theorem nobehind (b : Expr) {op : CmpOp} (h : op ≠ .In) (h2 : op ≠ .NotIn) : behindInMarks op b = false := by
  have e1 : (op == CmpOp.In) = false := by cases op <;> first | rfl | exact absurd rfl h
  have e2 : (op == CmpOp.NotIn) = false := by cases op <;> first | rfl | exact absurd rfl h2
  cases b <;> simp [behindInMarks, e1, e2]
noncomputable def tIsN (ta : TE) : TE := fun σ H Q => ta σ H fun x H1 => Q (.bl (decide (x = .non))) H1
noncomputable def tNotN (ta : TE) : TE := fun σ H Q => ta σ H fun x H1 => Q (.bl (!decide (x = .non))) H1
theorem RelV.none_iff {x : V} {v : Value} (r : RelV x v) : (v == Value.none) = decide (x = .non) := by
  cases x with
  | non => cases r; rfl
  | bl _ => cases r; rfl
  | int _ => obtain ⟨t, rfl⟩ := r; rfl
  | str _ => obtain ⟨t, rfl⟩ := r; rfl
  | byt _ => obtain ⟨t, rfl⟩ := r; rfl
  | flt _ => obtain ⟨t, rfl⟩ := r; rfl
  | ref _ => cases r; rfl
  | ty _ => cases r; rfl
theorem pc_isN {j pos'} (ha : PE X a ta) : PC X .Is a (.Constant .none j pos') (tIsN ta) := by
  intro pins s σ H Q I h
  refine thn (ha pins s σ H _ I h) fun v s1 ⟨x, H1, I1, r1, q1⟩ => ?_
  exact Constant_none (is_none_gen ⟨.bl _, H1, I1, by rw [r1.none_iff]; rfl, q1⟩)
theorem pc_notN {j pos'} (ha : PE X a ta) : PC X .IsNot a (.Constant .none j pos') (tNotN ta) := by
  intro pins s σ H Q I h
  refine thn (ha pins s σ H _ I h) fun v s1 ⟨x, H1, I1, r1, q1⟩ => ?_
  exact Constant_none (isnot_none_gen ⟨.bl _, H1, I1, by rw [r1.none_iff]; rfl, q1⟩)
noncomputable def tB (t : TE) : TT := fun σ H Q => t σ H fun x H1 => ∃ c, x = .bl c ∧ Q c H1
theorem pt_cmp {op : CmpOp} {t : TE} (h : PC X op a b t) (h1 : behindInMarks op b = false := by first | exact nobehind _ (by decide) (by decide) | rfl) : PT X (.Compare a [op] [b] pos) (tB t) := by
  intro pins s σ H Q I hw
  refine wpAny_isTrue_Compare1 (thn (h pins s σ H _ I hw) fun v s1 h1 => thn h1 fun u s2 h2 => thn h2 fun c s3 ⟨x, H1, I1, r1, q1⟩ => ?_) h1
  obtain ⟨d, rfl, q⟩ := q1
  cases r1
  exact wpAny_truthy_bool ⟨H1, I1, q⟩
theorem pt_val {e : Expr} {t : TE} (h : PE X e t) (he : ∀ whole, isTrue e X.env whole = (do let v ← whole; standAt e.pos; holding [v] (truthy v)) := by intro _; rfl) : PT X e (tB t) := by
  intro pins s σ H Q I hw
  refine isTrue_plain (thn (h pins s σ H _ I hw) fun v s1 ⟨x, H1, I1, r1, q1⟩ => ?_) (he _)
  obtain ⟨d, rfl, q⟩ := q1
  cases r1
  exact wpAny_truthy_bool ⟨H1, I1, q⟩

/-! ### and, or, not -/
variable {tA tB' : TT} {rest : List Expr}
noncomputable def tAnd (t u : TT) : TT := fun σ H Q => t σ H fun c H1 => if c = true then u σ H1 Q else Q false H1
noncomputable def tOr (t u : TT) : TT := fun σ H Q => t σ H fun c H1 => if c = true then Q true H1 else u σ H1 Q
noncomputable def tNot (t : TT) : TT := fun σ H Q => t σ H fun c H1 => Q (!c) H1
theorem pw_and1 (ha : PT X a tA) : PW X (.BoolOp .And [a] pos) tA := by
  intro wh pins s σ H Q I h
  refine isTrue_and (thn (ha pins s σ H Q I h) fun c s1 e => ?_)
  cases c with
  | true => exact isTrue_and_nil e
  | false => exact e
theorem pw_or1 (ha : PT X a tA) : PW X (.BoolOp .Or [a] pos) tA := by
  intro wh pins s σ H Q I h
  refine isTrue_or (thn (ha pins s σ H Q I h) fun c s1 e => ?_)
  cases c with
  | false => exact isTrue_or_nil e
  | true => exact e
theorem pw_and (ha : PT X a tA) (hb : PW X (.BoolOp .And (b :: rest) pos) tB') : PW X (.BoolOp .And (a :: b :: rest) pos) (tAnd tA tB') := by
  intro wh pins s σ H Q I h
  refine isTrue_and (thn (ha pins s σ H _ I h) fun c s1 ⟨H1, I1, q1⟩ => ?_)
  cases c with
  | true => exact hb wh pins s1 σ H1 Q I1 q1
  | false => exact ⟨H1, I1, q1⟩
theorem pw_or (ha : PT X a tA) (hb : PW X (.BoolOp .Or (b :: rest) pos) tB') : PW X (.BoolOp .Or (a :: b :: rest) pos) (tOr tA tB') := by
  intro wh pins s σ H Q I h
  refine isTrue_or (thn (ha pins s σ H _ I h) fun c s1 ⟨H1, I1, q1⟩ => ?_)
  cases c with
  | true => exact ⟨H1, I1, q1⟩
  | false => exact hb wh pins s1 σ H1 Q I1 q1
theorem pt_not (ha : PT X a tA) : PT X (.UnaryOp .Not a pos) (tNot tA) := by
  intro pins s σ H Q I h
  exact isTrue_not (ha pins s σ H (fun c H1 => Q (!c) H1) I h)
noncomputable def tAndV (ta tb : TE) : TE := fun σ H Q => ta σ H fun x H1 => ∃ c, x = .bl c ∧ if c = true then tb σ H1 Q else Q (.bl false) H1
noncomputable def tNotV (ta : TE) : TE := fun σ H Q => ta σ H fun x H1 => ∃ c, x = .bl c ∧ Q (.bl (!c)) H1
theorem pe_one {op} {t : TE} (h : PE X a t) : PE X (.BoolOp op [a] pos) t := fun pins s σ H Q I hw => BoolOp_one (h pins s σ H Q I hw)
theorem pe_and (ha : PE X a ta) (hb : PE X (.BoolOp .And (b :: rest) pos) tb) : PE X (.BoolOp .And (a :: b :: rest) pos) (tAndV ta tb) := by
  intro pins s σ H Q I h
  refine BoolOp_and (thn (ha pins s σ H _ I h) fun v s1 ⟨x, H1, I1, r1, q1⟩ => ?_)
  obtain ⟨c, rfl, q1⟩ := q1
  cases r1
  refine wpAny_truthy_bool ?_
  cases c with
  | true => exact hb pins s1 σ H1 Q I1 q1
  | false => exact ⟨.bl false, H1, I1, rfl, q1⟩
theorem pe_not (ha : PE X a ta) : PE X (.UnaryOp .Not a pos) (tNotV ta) := by
  intro pins s σ H Q I h
  refine UnaryOp_ (thn (ha pins s σ H _ I h) fun v s1 ⟨x, H1, I1, r1, q1⟩ => ?_)
  obtain ⟨c, rfl, q1⟩ := q1
  cases r1
  exact not_of (wpAny_truthy_bool ⟨.bl (!c), H1, I1, rfl, q1⟩)
end
end L2
namespace L2
open PySem PySem.Spec PyProof.Rows
/-! ### a list, a tuple that is read: tracked, frozen, or an object of the module -/
noncomputable def SqL (K : PySem.W.Frag) (H : Hp) (a : Addr) (xs : List V) : Prop :=
  Rd H a (.lst xs) ∨
    ∃ (o : Obj) (its : Array Value) (n : Nat), K.lookup a = some o ∧ o.cls = .type "list" ∧ o.dict = none ∧ o.data = .seq its n ∧ its.size ≤ sizeLine ∧ Vals xs its.toList
noncomputable def SqT (K : PySem.W.Frag) (H : Hp) (a : Addr) (xs : List V) : Prop :=
  Rd H a (.tup xs) ∨
    ∃ (o : Obj) (its : Array Value) (n : Nat), K.lookup a = some o ∧ o.cls = .type "tuple" ∧ o.data = .seq its n ∧ its.size ≤ sizeLine ∧ Vals xs its.toList
noncomputable def absV : Value → Option V
  | .none => some .non
  | .bool b => some (.bl b)
  | .int i _ => some (.int i)
  | .str x _ => some (.str x)
  | .bytes b _ => some (.byt b)
  | .float b _ => some (.flt b)
  | .ref a => some (.ref a)
  | .type n => some (.ty n)
  | _ => none
theorem RelV.abs {x : V} {u : Value} (r : RelV x u) : absV u = some x := by
  cases x with
  | non => cases r; rfl
  | bl _ => cases r; rfl
  | int _ => obtain ⟨t, rfl⟩ := r; rfl
  | str _ => obtain ⟨t, rfl⟩ := r; rfl
  | byt _ => obtain ⟨t, rfl⟩ := r; rfl
  | flt _ => obtain ⟨t, rfl⟩ := r; rfl
  | ref _ => cases r; rfl
  | ty _ => cases r; rfl
theorem RelV.inj {x y : V} {u : Value} (r : RelV x u) (q : RelV y u) : x = y := Option.some.inj (r.abs.symm.trans q.abs)
theorem Vals.inj : ∀ {xs ys : List V} {us : List Value}, Vals xs us → Vals ys us → xs = ys
  | _, _, _, .nil, .nil => rfl
  | _, _, _, .cons r t, .cons r' t' => by rw [r.inj r', Vals.inj t t']
section
variable {X : Cx} {pins : List (Addr × Obj)} {σ : St} {H : Hp} {s : Shared} {a : Addr} {xs ys : List V}
theorem SqL.of {K : PySem.W.Frag} (h : H a = some (.lst xs)) : SqL K H a xs := .inl (.inl h)
theorem SqT.of {K : PySem.W.Frag} (h : H a = some (.tup xs)) : SqT K H a xs := .inl (.inl h)
theorem Inv.list (I : Inv X pins σ H s) (h : SqL X.K H a xs) : ∃ its : List Value, Vals xs its ∧ PlainL s.heap a its.toArray ∧ xs.length ≤ sizeLine := by
  rcases h with h | ⟨o, its, n, hk, hc, hd, hs, hz, r⟩
  · obtain ⟨z, its, n, r, e⟩ := h.ok I.hok
    exact ⟨its, r, ⟨_, n, e, rfl, rfl, rfl⟩, z⟩
  · refine ⟨its.toList, r, ⟨o, n, I.kIn a o hk, hc, hd, by simpa using hs⟩, ?_⟩
    have e := r.length
    simp only [Array.length_toList] at e
    omega
theorem Inv.tuple (I : Inv X pins σ H s) (h : SqT X.K H a xs) : ∃ its : List Value, Vals xs its ∧ IsTup s.heap a its.toArray ∧ xs.length ≤ sizeLine := by
  rcases h with h | ⟨o, its, n, hk, hc, hs, hz, r⟩
  · obtain ⟨z, its, r, p⟩ := h.ok I.hok
    exact ⟨its, r, p, z⟩
  · refine ⟨its.toList, r, ⟨o, I.kIn a o hk, hc, n, by simpa using hs⟩, ?_⟩
    have e := r.length
    simp only [Array.length_toList] at e
    omega
theorem Inv.list_inj (I : Inv X pins σ H s) (h : SqL X.K H a xs) (h' : SqL X.K H a ys) : xs = ys := by
  obtain ⟨its, r, ⟨o, n, e, _, _, d⟩, _⟩ := I.list h
  obtain ⟨its', r', ⟨o', n', e', _, _, d'⟩, _⟩ := I.list h'
  rw [e] at e'; cases e'
  rw [d] at d'
  injection d' with d1 _
  have : its = its' := by simpa using congrArg Array.toList d1
  subst this
  exact r.inj r'
end
/-! ### another wish about exceptions -/
noncomputable abbrev Cx.wish (X : Cx) (E : Value → Shared → Prop) : Cx := { X with xe := E }
noncomputable abbrev Cx.nox (X : Cx) : Cx := X.wish fun _ _ => False
theorem Cx.Ok.wish {X : Cx} (ok : X.Ok) (E : Value → Shared → Prop) : (X.wish E).Ok :=
  ⟨ok.mod, ok.kind, ok.glob, ok.blt, ok.above, ok.inj, ok.has, ok.cab, ok.hd, ok.frames, ok.stk, ok.exf, ok.bs, ok.bsz, ok.noex, ok.exfs, ok.funs, ok.frf⟩
theorem Cx.Ok.unwish {X : Cx} {E : Value → Shared → Prop} (ok : (X.wish E).Ok) : X.Ok :=
  ⟨ok.mod, ok.kind, ok.glob, ok.blt, ok.above, ok.inj, ok.has, ok.cab, ok.hd, ok.frames, ok.stk, ok.exf, ok.bs, ok.bsz, ok.noex, ok.exfs, ok.funs, ok.frf⟩
section
variable {X : Cx} {pins : List (Addr × Obj)} {σ : St} {H : Hp} {s : Shared} {E : Value → Shared → Prop}
theorem Inv.wish (I : Inv X pins σ H s) (E : Value → Shared → Prop) : Inv (X.wish E) pins σ H s := ⟨I.ok.wish E, I.os, I.bare, I.base, I.loc, I.cell, I.free, I.freeC, I.pin, I.hok, I.len⟩
theorem Inv.unwish (I : Inv (X.wish E) pins σ H s) : Inv X pins σ H s := ⟨I.ok.unwish, I.os, I.bare, I.base, I.loc, I.cell, I.free, I.freeC, I.pin, I.hok, I.len⟩
theorem SP.unwish {D : Ends} {f : Flow} {s' : Shared} (h : SP (X.wish E) pins D f s') : SP X pins D f s' := by
  cases f with
  | next => obtain ⟨σ', H', I, q⟩ := h; exact ⟨σ', H', I.unwish, q⟩
  | brk => obtain ⟨σ', H', I, q⟩ := h; exact ⟨σ', H', I.unwish, q⟩
  | cont => obtain ⟨σ', H', I, q⟩ := h; exact ⟨σ', H', I.unwish, q⟩
  | ret u => obtain ⟨v, σ', H', I, r, q⟩ := h; exact ⟨v, σ', H', I.unwish, r, q⟩
theorem PE.nox {e : Expr} {t : TE} (h : PE X.nox e t) : PE X e t := fun pins s σ H Q I hw =>
  wpAny_mono (h pins s σ H Q (I.wish _) hw) (fun _ _ ⟨v, H', I', r, q⟩ => ⟨v, H', I'.unwish, r, q⟩) fun _ _ z => False.elim z
theorem PT.nox {e : Expr} {t : TT} (h : PT X.nox e t) : PT X e t := fun pins s σ H Q I hw =>
  wpAny_mono (h pins s σ H Q (I.wish _) hw) (fun _ _ ⟨H', I', q⟩ => ⟨H', I'.unwish, q⟩) fun _ _ z => False.elim z
theorem PSs.nox {st : List Stmt} {t : TS} (h : PSs X.nox st t) : PSs X st t := fun pins s σ H D I hw =>
  wpAny_mono (h pins s σ H D (I.wish _) hw) (fun _ _ q => q.unwish) fun _ _ z => False.elim z
end
/-! ### blocks and small statements -/
section
variable {X : Cx} {st : Stmt} {rest : List Stmt} {t u : TS} {e : Expr} {te : TE} {pos : Pos}
noncomputable def tNext : TS := fun D σ H => D.nx σ H
noncomputable def tSeq (t u : TS) : TS := fun D σ H => t { D with nx := u D } σ H
theorem pss_nil : PSs X [] tNext := fun _ _ σ H _ I h => wpAny_execs_nil ⟨σ, H, I, h⟩
theorem pss_cons (h1 : PS X st t) (h2 : PSs X rest u) : PSs X (st :: rest) (tSeq t u) := by
  intro pins s σ H D I h
  refine wpAny_execs_cons (thn (h1 pins s σ H { D with nx := u D } I h) fun f s1 q => ?_)
  cases f with
  | next =>
    obtain ⟨σ', H', I', q⟩ := q
    exact h2 pins s1 σ' H' D I' q
  | ret v => exact q
  | brk => exact q
  | cont => exact q
theorem pss_one (h1 : PS X st t) : PSs X [st] t := by
  intro pins s σ H D I h
  refine wpAny_execs_cons (thn (h1 pins s σ H D I h) fun f s1 q => ?_)
  cases f with
  | next => exact wpAny_execs_nil q
  | ret v => exact q
  | brk => exact q
  | cont => exact q
theorem Inv.quiet {pins : List (Addr × Obj)} {σ : St} {H : Hp} {s : Shared} (I : Inv X pins σ H s) : interactive X.env = false := by simp [interactive, I.ok.kind]
noncomputable def tDrop (te : TE) : TS := fun D σ H => te σ H fun _ H1 => D.nx σ H1
theorem ps_expr (he : PE X e te) (hs : swapsWith e none pos.line X.env = pure false := by rfl) : PS X (.Expr e pos) (tDrop te) := by
  intro pins s σ H D I h
  exact wpAny_Expr_any (thn (he pins s σ H _ I h) fun v s1 ⟨x, H1, I1, r1, q1⟩ => ⟨σ, H1, I1, q1⟩) I.quiet hs
noncomputable def tRet (te : TE) : TS := fun D σ H => te σ H D.rt
theorem ps_ret (he : PE X e te) : PS X (.Return (some e) pos) (tRet te) := by
  intro pins s σ H D I h
  exact wpAny_Return_some (thn (he pins s σ H _ I h) fun v s1 ⟨x, H1, I1, r1, q1⟩ => ⟨x, σ, H1, I1, r1, q1⟩)
noncomputable def tIfS (c : TT) (t u : TS) : TS := fun D σ H => c σ H fun b H1 => if b = true then t D σ H1 else u D σ H1
theorem ps_if {c : Expr} {a b : List Stmt} {tc : TT} (hc : PT X c tc) (ha : PSs X a t) (hb : PSs X b u) : PS X (.If c a b pos) (tIfS tc t u) := by
  intro pins s σ H D I h
  refine wpAny_If (thn (hc pins s σ H _ I h) fun d s1 ⟨H1, I1, q1⟩ => ?_)
  cases d with
  | true => exact ha pins s1 σ H1 D I1 q1
  | false => exact hb pins s1 σ H1 D I1 q1
noncomputable def tNever : TS := fun _ _ _ => False
theorem pss_never {sts : List Stmt} : PSs X sts tNever := fun _ _ _ _ _ _ h => h.elim
end
/-! ### targets -/
noncomputable abbrev TG := V → St → Hp → (St → Hp → Prop) → Prop
noncomputable abbrev TGs := List V → St → Hp → (St → Hp → Prop) → Prop
noncomputable def PG (X : Cx) (target : Expr) (t : TG) : Prop :=
  ∀ (pins : List (Addr × Obj)) (s : Shared) (σ : St) (H : Hp) (v : V) (u : Value) (Q : St → Hp → Prop), Inv X pins σ H s → RelV v u → t v σ H Q →
    wpAny (model X.prog X.w) X.A (assign target X.env u) (fun _ s' => ∃ σ' H', Inv X pins σ' H' s' ∧ Q σ' H') X.xe s
noncomputable def PGs (X : Cx) (ts : List Expr) (t : TGs) : Prop :=
  ∀ (pins : List (Addr × Obj)) (s : Shared) (σ : St) (H : Hp) (vs : List V) (us : List Value) (Q : St → Hp → Prop), Inv X pins σ H s → Vals vs us → t vs σ H Q →
    wpAny (model X.prog X.w) X.A (assignInOrder ((assignEach ts X.env).map (·.2)) us) (fun _ s' => ∃ σ' H', Inv X pins σ' H' s' ∧ Q σ' H') X.xe s
noncomputable abbrev TSet := V → V → V → Hp → (Hp → Prop) → Prop
noncomputable def PSet (X : Cx) (t : TSet) : Prop :=
  ∀ (pins : List (Addr × Obj)) (s : Shared) (σ : St) (H : Hp) (o i v : V) (ov iv u : Value) (Q : Hp → Prop), Inv X pins σ H s → RelV o ov → RelV i iv → RelV v u → t o i v H Q →
    wpAny (model X.prog X.w) X.A (setItem ov iv u) (fun _ s' => ∃ H', Inv X pins σ H' s' ∧ Q H') X.xe s
section
variable {X : Cx} {pos : Pos}
noncomputable def gName (i : Nat) : TG := fun v σ H Q => Q (σ.set i (some v)) H
theorem pg_name {i : Nat} {x : Str} (hN : X.N.Nodup) (hi : X.N[i]? = some x) (hx : Loc X.env.scope x) (hf : X.fn x = true ∨ X.env.scope.names.lookup x = some .local := by first | exact .inl rfl | exact .inr rfl | assumption) : PG X (.Name x pos) (gName i) := by
  intro pins s σ H v u Q I r h
  exact wpAny_assign_Name (store_ok I hN hi hx r (fun s' I' => ⟨_, H, I', h⟩) hf)
noncomputable def gNil : TGs := fun vs σ H Q => vs = [] ∧ Q σ H
noncomputable def gCons (t : TG) (u : TGs) : TGs := fun vs σ H Q => ∃ v r, vs = v :: r ∧ t v σ H fun σ' H' => u r σ' H' Q
theorem pgs_nil : PGs X [] gNil := by
  intro pins s σ H vs us Q I r h
  obtain ⟨e, h⟩ := h
  subst e
  cases r
  exact assignInOrder_nil ⟨σ, H, I, h⟩
theorem pgs_cons {e : Expr} {es : List Expr} {t : TG} {u : TGs} (h1 : PG X e t) (h2 : PGs X es u)
    (hs : (assignEach (e :: es) X.env).map (·.2) = assign e X.env :: (assignEach es X.env).map (·.2) := by rfl) : PGs X (e :: es) (gCons t u) := by
  intro pins s σ H vs us Q I r h
  obtain ⟨v, vr, e1, h⟩ := h
  subst e1
  cases r with
  | cons r rr =>
    rw [hs]
    refine assignInOrder_cons (thn (h1 pins s σ H _ _ _ I r h) fun _ s1 ⟨σ1, H1, I1, q1⟩ => ?_)
    exact h2 pins s1 σ1 H1 _ _ Q I1 rr q1
noncomputable def gTup (K : PySem.W.Frag) (n : Nat) (t : TGs) : TG := fun v σ H Q => ∃ a xs, v = .ref a ∧ SqT K H a xs ∧ xs.length = n ∧ t xs σ H Q
theorem pg_tup {es : List Expr} {k : Nat} {t : TGs} {n : Nat} (hc : X.calm = true) (h : PGs X es t)
    (hn : (assignEach es X.env).length = n := by rfl) (hst : (assignEach es X.env).findIdx? (·.1) = none := by rfl) : PG X (.Tuple es k pos) (gTup X.K n t) := by
  intro pins s σ H v u Q I r hw
  obtain ⟨a, xs, e1, hq, hl, hw⟩ := hw
  subst e1
  cases r
  obtain ⟨its, rv, ht, hz⟩ := I.tuple hq
  refine assign_Tuple_tuple (I.ok.hd hc) ht (by simp [hn, ← hl, rv.length]) hst fun h' hx => ?_
  have I1 : Inv X pins σ H { s with heap := h' } := I.kept (t' := s.toks) fun b o e => hx b o (Nat.ne_of_lt (Heap.lt_size e)) e
  exact h pins _ σ H xs _ Q I1 (by simpa using rv) hw
noncomputable def gSub (to ti : TE) (t : TSet) : TG := fun v σ H Q => to σ H fun o H1 => ti σ H1 fun i H2 => t o i v H2 fun H3 => Q σ H3
theorem pg_sub {o i : Expr} {to ti : TE} {t : TSet} (ho : PE X o to) (hi : PE X i ti) (hs : PSet X t)
    (ha : ∀ v, assign (.Subscript o i pos) X.env v = (do
      let ov ← holding [v] (eval o X.env)
      let iv ← holding [v, ov] (eval i X.env)
      standAt pos
      holding [v, ov, iv] (setItem ov iv v)
      release [v, ov, iv] []) := by intro _; rfl) : PG X (.Subscript o i pos) (gSub to ti t) := by
  intro pins s σ H v u Q I r h
  rw [ha]
  refine wpAny_bind (wpAny_holding (thn (ho pins s σ H _ I h) fun ov s1 ⟨x, H1, I1, r1, q1⟩ => ?_))
  refine wpAny_bind (wpAny_holding (thn (hi pins s1 σ H1 _ I1 q1) fun iv s2 ⟨y, H2, I2, r2, q2⟩ => ?_))
  refine wpAny_bind (wpAny_standAt (wpAny_bind (wpAny_holding (thn (hs pins s2 σ H2 x y v ov iv u _ I2 r1 r2 r q2) fun _ s3 ⟨H3, I3, q3⟩ => ?_))))
  exact wpAny_release ⟨σ, H3, I3, q3⟩
noncomputable def tAsg (te : TE) (g : TG) : TS := fun D σ H => te σ H fun x H1 => g x σ H1 D.nx
theorem ps_asg {tg e : Expr} {te : TE} {g : TG} (he : PE X e te) (hg : PG X tg g) (hs : swapsWithSole [tg] e pos.line X.env = pure false := by rfl) (hw : swappedStores [tg] e X.env = pure none := by rfl)
    (h1 : (assignEach [tg] X.env).map (·.2) = [assign tg X.env] := by rfl) : PS X (.Assign [tg] e pos) (tAsg te g) := by
  intro pins s σ H D I h
  refine wpAny_Assign_stores (thn (he pins s σ H _ I h) fun v s1 ⟨x, H1, I1, r1, q1⟩ => ?_) hs hw
  rw [h1]
  exact thn (hg pins s1 σ H1 x v _ I1 r1 q1) fun _ s2 q => q
theorem ps_set {i : Nat} {x : Str} {e : Expr} {te : TE} {pos' : Pos} (hN : X.N.Nodup) (hi : X.N[i]? = some x) (hx : Loc X.env.scope x) (he : PE X e te) (hs : swapsWith e (some (.Name x pos')) pos.line X.env = pure false := by rfl) (hf : X.fn x = true ∨ X.env.scope.names.lookup x = some .local := by first | exact .inl rfl | exact .inr rfl | assumption) :
    PS X (.Assign [.Name x pos'] e pos) (tAsg te (gName i)) := by
  intro pins s σ H D I h
  refine wpAny_Assign_Name (thn (he pins s σ H _ I h) fun v s1 ⟨y, H1, I1, r1, q1⟩ => ?_) hs
  exact store_ok I1 hN hi hx r1 (fun s2 I2 => ⟨_, H1, I2, q1⟩) hf
end
/-! ### while -/
section
variable {X : Cx} {pos : Pos}
noncomputable def tWhile (c : TT) (tb : TS) : TS := fun D σ H => ∃ W : Nat → St → Hp → Prop, (∃ m, W m σ H) ∧ ∀ m σ H, W m σ H →
  c σ H fun b H1 => if b = true then ∃ N : St → Hp → Prop, (∀ σ' H', N σ' H' → ∃ m', m' < m ∧ W m' σ' H') ∧ tb { D with nx := N, ct := N, bk := D.nx } σ H1 else D.nx σ H1
theorem ps_while {c : Expr} {body : List Stmt} {tc : TT} {tb : TS} (hp : PassesOwn (model X.prog X.w) X.A X.env X.xe) (hc : PT X c tc) (hb : PSs X body tb) : PS X (.While c body [] pos) (tWhile tc tb) := by
  intro pins s σ H D I h
  obtain ⟨W, ⟨m0, w0⟩, turn⟩ := h
  refine wpAny_While (codeAny_whileLoop (fun n s' => ∃ σ' H', Inv X pins σ' H' s' ∧ W n σ' H') ?_ m0 ⟨σ, H, I, w0⟩)
  rintro n s1 ⟨σ1, H1, I1, w1⟩
  refine wpAny_passesOwn hp (thn (hc pins s1 σ1 H1 _ I1 (turn n σ1 H1 w1)) fun b s2 ⟨H2, I2, q2⟩ => ?_)
  cases b with
  | true =>
    obtain ⟨N, hN, q2⟩ := q2
    rw [if_pos rfl]
    refine wpAny_passesOwn hp (thn (hb pins s2 σ1 H2 _ I2 q2) fun f s3 q3 => ?_)
    cases f with
    | next =>
      obtain ⟨σ3, H3, I3, n3⟩ := q3
      obtain ⟨m', hm, w3⟩ := hN σ3 H3 n3
      exact ⟨m', hm, σ3, H3, I3, w3⟩
    | cont =>
      obtain ⟨σ3, H3, I3, n3⟩ := q3
      obtain ⟨m', hm, w3⟩ := hN σ3 H3 n3
      exact ⟨m', hm, σ3, H3, I3, w3⟩
    | brk => exact q3
    | ret v => exact q3
  | false =>
    rw [if_neg Bool.false_ne_true]
    exact wpAny_execs_nil ⟨σ1, H2, I2, q2⟩
end
/-! ### what a loop or a comprehension walks -/
structure It where
  go : Nat → Hp → Prop
  yld : Nat → Hp → V → Hp → Prop
  stop : Nat → Hp → Prop
noncomputable def FpOk (X : Cx) (pins : List (Addr × Obj)) (H : Hp) (b : Addr) : Prop :=
  H b = none ∧ b ≠ X.env.locals ∧ b ∉ X.fs ∧ (b ∈ X.ex ∨ X.s₀.heap.objs.size ≤ b) ∧ (∀ x c, X.env.cells.lookup x = some c → c ≠ b) ∧ ∀ p ∈ X.pn ++ pins, p.1 ≠ b
theorem Inv.fpOk {X : Cx} {pins : List (Addr × Obj)} {σ : St} {H H' : Hp} {s : Shared} {b : Addr} (I : Inv X pins σ H s) (hb : s.heap.objs.size ≤ b) (hn : H' b = none) : FpOk X pins H' b := by
  refine ⟨hn, Nat.ne_of_gt (Nat.lt_of_lt_of_le I.lt hb), I.nofs hb, .inr (Nat.le_trans I.sz hb), fun x c e z => ?_, fun p hp z => ?_⟩
  · obtain ⟨v, q⟩ := I.cell x c e
    exact absurd (Nat.lt_of_lt_of_le q.lt (by rw [z]; exact hb)) (Nat.lt_irrefl _)
  · exact absurd (Nat.lt_of_lt_of_le (Heap.lt_size (I.pin p hp).1) (by rw [z]; exact hb)) (Nat.lt_irrefl _)
structure Turn (P : Program) (w : World) (K : PySem.W.Frag) (tg : Expr) (J : It) (fp : List Addr) (it : Addr) (tn : Nat → Heap → Prop) : Prop where
  mem : it ∈ fp
  obj : ∀ i h, tn i h → ∀ b ∈ fp, ∃ o, h.get? b = some o ∧ ∀ v, o.data ≠ .cell v
  keep : ∀ i h h', tn i h → (∀ b ∈ fp, ∀ o, h.get? b = some o → h'.get? b = some o) → tn i h'
  item : ∀ (X : Cx), X.prog = P → X.w = w → X.K = K → X.calm = true → ∀ (i : Nat) (pins : List (Addr × Obj)) (s : Shared) (σ : St) (H : Hp) (E : Value → Shared → Prop), Inv X pins σ H s → (∀ b ∈ fp, FpOk X pins H b) → tn i s.heap → J.go i H →
    wpAny (model P w) X.A (pyNext (.ref it)) (fun r s1 => ∃ u, r = some u ∧
      wpAny (model P w) X.A (letOwnedTupleGo tg (.ref it) u) (fun _ s2 => ∃ x H', Inv X pins σ H' s2 ∧ RelV x u ∧ J.yld i H x H' ∧ tn (i + 1) s2.heap ∧ ∀ b ∈ fp, H' b = none) E s1) E s
  done : ∀ (X : Cx), X.prog = P → X.w = w → X.K = K → X.calm = true → ∀ (i : Nat) (pins : List (Addr × Obj)) (s : Shared) (σ : St) (H : Hp) (E : Value → Shared → Prop), Inv X pins σ H s → (∀ b ∈ fp, FpOk X pins H b) → tn i s.heap → J.stop i H →
    wpAny (model P w) X.A (pyNext (.ref it)) (fun r s1 => r = none ∧ Inv X pins σ H s1) E s
  self : ∀ (A : Around) (i : Nat) (s : Shared) (Q : Value → Shared → Prop) (E : Value → Shared → Prop), tn i s.heap → Q (.ref it) s → wpAny (model P w) A (pyIter (.ref it)) Q E s
noncomputable abbrev TI := St → Hp → (It → Hp → Prop) → Prop
noncomputable def PIE (X : Cx) (pins : List (Addr × Obj)) (σ : St) (tg : Expr) (R : It → Hp → Prop) (itv : Value) (s2 : Shared) : Prop :=
  ∃ (it : Addr) (fp : List Addr) (tn : Nat → Heap → Prop) (J : It) (H' : Hp), itv = .ref it ∧ Inv X pins σ H' s2 ∧ Turn X.prog X.w X.K tg J fp it tn ∧ tn 0 s2.heap ∧ (∀ b ∈ fp, FpOk X pins H' b) ∧ R J H'
noncomputable def PI (X : Cx) (tg iter : Expr) (wi : TI) : Prop :=
  ∀ (pins : List (Addr × Obj)) (s : Shared) (σ : St) (H : Hp) (R : It → Hp → Prop), Inv X pins σ H s → wi σ H R →
    wpAny (model X.prog X.w) X.A (eval iter X.env) (fun v s1 => wpAny (model X.prog X.w) X.A (pyIter v) (PIE X pins σ tg R) X.xe s1) X.xe s

theorem go_of {M : Model} {A : Around} {E : Value → Shared → Prop} {s : Shared} {tg : Expr} {it : Addr} {u : Value} {o : Obj} {n : String} {vs : Array Value} {Q : Unit → Shared → Prop} (ho : s.heap.get? it = some o) (hc : o.cls = .type n) (hd : o.data = .fields vs)
    (hn : ["enumerate", "zip", "dict_itemiterator", "dict_reverseitemiterator", "odict_iterator", "itertools.zip_longest", "itertools.pairwise"].contains n = false) (hQ : Q () s) : wpAny M A (letOwnedTupleGo tg (.ref it) u) Q E s := by
  unfold letOwnedTupleGo
  cases tg <;> first
    | exact wpAny_pure hQ
    | (cases u <;> first
        | exact wpAny_pure hQ
        | (refine wpAny_bind (wpAny_load ho ?_)
           rw [hc, hd]
           show wpAny M A (if (["enumerate", "zip", "dict_itemiterator", "dict_reverseitemiterator", "odict_iterator", "itertools.zip_longest", "itertools.pairwise"].contains n && vs[0]? == some (rawInt _)) = true then _ else _) Q E s
           rw [if_neg (by intro h; rw [hn, Bool.false_and] at h; cases h)]
           exact wpAny_pure hQ))

noncomputable def Itl (K : PySem.W.Frag) (a : Addr) : It :=
  ⟨fun i H => ∃ xs x, SqL K H a xs ∧ xs[i]? = some x, fun i H x H' => H' = H ∧ ∀ xs, SqL K H a xs → xs[i]? = some x, fun i H => ∃ xs, SqL K H a xs ∧ xs.length ≤ i⟩
noncomputable def Itr (lo : Int) (n : Nat) : It := ⟨fun i _ => i < n, fun i H x H' => H' = H ∧ x = .int (lo + i), fun i _ => n ≤ i⟩
theorem turn_list {P : Program} {w : World} {K : PySem.W.Frag} {tg : Expr} (a it : Addr) : Turn P w K tg (Itl K a) [it] it (fun i h => h.IsListIter it a i) where
  mem := by simp
  obj := fun i h st b hb => by
    have e : b = it := by simpa using hb
    subst e
    obtain ⟨o, e, c, d⟩ := st
    exact ⟨o, e, fun v z => by rw [d] at z; cases z⟩
  keep := fun i h h' st k => st.at fun o e => k it (by simp) o e
  item := by
    intro X hP hw hK hc i pins s σ H E I hf st hg
    subst hP hw hK
    obtain ⟨xs, x, hq, hx⟩ := hg
    obtain ⟨its, rv, p, hz⟩ := I.list hq
    obtain ⟨u, hu, ru⟩ := rv.get hx
    obtain ⟨f0, f1, f2, f3, f4, f5⟩ := hf it (by simp)
    refine wpAny_pyNext_list_item st p.isList (x := u) (by simpa using hu) fun h' st' sb => ?_
    have I1 : Inv X pins σ H { s with heap := h' } := I.turned (t' := s.toks) (fun b o hb e => (sb.2 b hb).trans e) f0 f1 f3 f4 f5
    obtain ⟨o, e, c, d⟩ := id st'
    exact ⟨u, rfl, go_of (s := { s with heap := h' }) e c d (by decide) ⟨x, H, I1, ru, ⟨rfl, fun ys hy => by rw [I.list_inj hy hq]; exact hx⟩, st', fun b hb => (hf b hb).1⟩⟩
  done := by
    intro X hP hw hK hc i pins s σ H E I hf st hg
    subst hP hw hK
    obtain ⟨xs, hq, hx⟩ := hg
    obtain ⟨its, rv, p, hz⟩ := I.list hq
    obtain ⟨f0, f1, f2, f3, f4, f5⟩ := hf it (by simp)
    have hl := rv.length
    exact wpAny_pyNext_list_end (I.ok.hd hc) st p.isList (by simp; omega) fun h' eb => ⟨rfl, I.turned (t' := s.toks) (fun b o hb e => eb b o hb e) f0 f1 f3 f4 f5⟩
  self := fun _ _ _ _ _ st h => wpAny_pyIter_listiter st h
theorem turn_range {P : Program} {w : World} {K : PySem.W.Frag} {tg : Expr} (it : Addr) (lo : Int) (n : Nat) : Turn P w K tg (Itr lo n) [it] it (fun i h => IsRangeIter h it (lo + (i : Nat) * 1) ((n : Int) - (i : Nat)) 1) where
  mem := by simp
  obj := fun i h st b hb => by
    have e : b = it := by simpa using hb
    subst e
    exact ⟨_, st, fun v z => by
      have z' : Data.fields _ = Data.cell v := z
      cases z'⟩
  keep := fun i h h' st k => k it (by simp) _ st
  item := by
    intro X hP hw hK hc i pins s σ H E I hf st hg
    subst hP hw hK
    obtain ⟨f0, f1, f2, f3, f4, f5⟩ := hf it (by simp)
    have W := Walks.range (prog := X.prog) (w := X.w) (I.ok.hd hc) it lo 1 n
    refine W.item i s _ _ hg st fun v h' tk hv st' kk => ?_
    obtain ⟨t, rfl⟩ := hv
    have I1 : Inv X pins σ H { s with heap := h', toks := tk } := I.turned (fun b o hb e => kk b o (by simpa using hb) e) f0 f1 f3 f4 f5
    refine ⟨_, rfl, go_of (s := { s with heap := h', toks := tk }) (n := "range_iterator") st' rfl rfl (by decide) ⟨.int (lo + i), H, I1, ⟨t, ?_⟩, ⟨rfl, rfl⟩, st', fun b hb => (hf b hb).1⟩⟩
    rw [Int.mul_one]
  done := by
    intro X hP hw hK hc i pins s σ H E I hf st hg
    subst hP hw hK
    obtain ⟨f0, f1, f2, f3, f4, f5⟩ := hf it (by simp)
    exact wpAny_pyNext_range_end (I.ok.hd hc) st (by have : n ≤ i := hg; omega) fun h' eb => ⟨rfl, I.turned (t' := s.toks) (fun b o hb e => eb b o hb e) f0 f1 f3 f4 f5⟩
  self := fun _ _ _ _ _ st h => wpAny_pyIter_rangeiter st h
end L2
namespace L2
open PySem PySem.Spec PyProof.Rows
section
variable {X : Cx} {tg : Expr}
noncomputable def iList (K : PySem.W.Frag) (tl : TE) : TI := fun σ H R => tl σ H fun x H1 => ∃ a, x = .ref a ∧ (∃ xs, SqL K H1 a xs) ∧ R (Itl K a) H1
theorem pi_list {l : Expr} {tl : TE} (hl : PE X l tl) : PI X tg l (iList X.K tl) := by
  intro pins s σ H R I h
  refine thn (hl pins s σ H _ I h) fun v s1 ⟨x, H1, I1, r1, q1⟩ => ?_
  obtain ⟨a, e, ⟨xs, hq⟩, q⟩ := q1
  subst e
  cases r1
  obtain ⟨its, rv, p, hz⟩ := I1.list hq
  refine wpAny_pyIter_list p.isList ?_
  refine ⟨s1.heap.objs.size, [s1.heap.objs.size], _, _, H1, rfl, I1.kept (t' := s1.toks) fun b o e => Heap.get?_push_of_some _ e, turn_list a _, ⟨_, Heap.get?_push_size _ rfl, rfl, rfl⟩, fun b hb => ?_, q⟩
  have e : b = s1.heap.objs.size := by simpa using hb
  subst e
  exact I1.fpOk (Nat.le_refl _) (I1.hok.fresh (Nat.le_refl _))
theorem range_it {pins : List (Addr × Obj)} {σ : St} {H : Hp} {s : Shared} {R : It → Hp → Prop} {E : Value → Shared → Prop} {lo hi : Int} {t u v : Tok} {tk : Nat} (I : Inv X pins σ H s) (h1 : -(2 ^ 62) ≤ lo) (h2 : lo < 2 ^ 62) (h3 : -(2 ^ 62) ≤ hi) (h4 : hi < 2 ^ 62)
    (q : R (Itr lo (hi - lo).toNat) H) : wpAny (model X.prog X.w) X.A (pyIter (.ref s.heap.objs.size)) (PIE X pins σ tg R) E { s with heap := s.heap.push { cls := .type "range", data := .fields #[.int lo t, .int hi u, .int 1 v] }, toks := tk } := by
  refine wpAny_pyIter_range (IsRange.new ..) (small_one h1 h2 h3 h4) ?_
  have I1 : Inv X pins σ H { s with heap := s.heap.push { cls := .type "range", data := .fields #[.int lo t, .int hi u, .int 1 v] }, toks := tk } := I.kept fun b o e => Heap.get?_push_of_some _ e
  refine ⟨(s.heap.push { cls := .type "range", data := .fields #[.int lo t, .int hi u, .int 1 v] }).objs.size, [(s.heap.push { cls := .type "range", data := .fields #[.int lo t, .int hi u, .int 1 v] }).objs.size], _, _, H, rfl,
    I1.kept (t' := tk) fun b o e => Heap.get?_push_of_some _ e, turn_range _ lo (hi - lo).toNat, ?_, fun b hb => ?_, q⟩
  · have e1 : lo + ((0 : Nat) : Int) * 1 = lo := by simp
    have e2 : (((hi - lo).toNat : Nat) : Int) - ((0 : Nat) : Int) = Builtin.Range.rangeSize lo hi 1 := by rw [rangeSize_one]; split <;> omega
    show IsRangeIter _ _ (lo + ((0 : Nat) : Int) * 1) ((((hi - lo).toNat : Nat) : Int) - ((0 : Nat) : Int)) 1
    rw [e1, e2]
    exact Heap.get?_push_size _ rfl
  · have e : b = (s.heap.push { cls := .type "range", data := .fields #[.int lo t, .int hi u, .int 1 v] }).objs.size := by simpa using hb
    subst e
    exact I1.fpOk (Nat.le_refl _) (I1.hok.fresh (Nat.le_refl _))
noncomputable def iRng1 (ta : TA) : TI := fun σ H R => ta σ H fun vs H1 => ∃ j : Int, vs = [.int j] ∧ -(2 ^ 62) ≤ j ∧ j < 2 ^ 62 ∧ R (Itr 0 j.toNat) H1
theorem pi_range1 {a : Expr} {ta : TA} {p pos : Pos} (hg : Gl X "range") (hm : X.mg "range" = none) (ha : PA X [a] ta) (hs : starEach [a] X.env = [(false, eval a X.env)] := by rfl) : PI X tg (.Call (.Name "range" p) [a] [] pos) (iRng1 ta) := by
  intro pins s σ H R I h
  refine Call_ (ld_blt I hg hm boot_range (PyProof.Rows.callWith_type1 (thn (ha pos pins s σ H _ I h) fun us s1 ⟨vs, H1, I1, r1, q1⟩ => ?_) hs rfl))
  obtain ⟨j, e, q1, q2, q⟩ := q1
  subst e
  cases r1 with
  | cons r rr =>
    cases rr
    obtain ⟨t, rfl⟩ := r
    exact call_range_1 (range_it I1 (by omega) (by omega) q1 q2 (by simpa using q))
/-! ### for -/
noncomputable def tFor (wi : TI) (g : TG) (tb : TS) : TS := fun D σ H => wi σ H fun J H1 => ∃ W : Nat → Nat → St → Hp → Prop, (∃ m, W 0 m σ H1) ∧ ∀ i m σ H, W i m σ H →
  (J.stop i H ∧ D.nx σ H) ∨ (J.go i H ∧ ∃ N : St → Hp → Prop, (∀ σ' H', N σ' H' → ∃ m', m' < m ∧ W (i + 1) m' σ' H') ∧ ∀ x H', J.yld i H x H' → g x σ H' fun σ2 H2 => tb { D with nx := N, ct := N, bk := D.nx } σ2 H2)
noncomputable def pinsAt (fp : List Addr) (h : Heap) : List (Addr × Obj) := fp.filterMap fun b => (h.get? b).map fun o => (b, o)
theorem mem_pinsAt {fp : List Addr} {h : Heap} {b : Addr} {o : Obj} (hb : b ∈ fp) (e : h.get? b = some o) : (b, o) ∈ pinsAt fp h := List.mem_filterMap.mpr ⟨b, hb, by rw [e]; rfl⟩
theorem of_pinsAt {fp : List Addr} {h : Heap} {p : Addr × Obj} (hp : p ∈ pinsAt fp h) : p.1 ∈ fp ∧ h.get? p.1 = some p.2 := by
  obtain ⟨b, hb, e⟩ := List.mem_filterMap.mp hp
  cases q : h.get? b with
  | none => rw [q] at e; cases e
  | some o =>
    rw [q] at e
    have e' : (b, o) = p := Option.some.inj e
    subst e'
    exact ⟨hb, q⟩
theorem Inv.pinned {pins : List (Addr × Obj)} {σ : St} {H : Hp} {s : Shared} {fp : List Addr} (I : Inv X pins σ H s) (hf : ∀ b ∈ fp, FpOk X pins H b) (ho : ∀ b ∈ fp, ∃ o, s.heap.get? b = some o ∧ ∀ v, o.data ≠ .cell v) : Inv X (pins ++ pinsAt fp s.heap) σ H s :=
  I.pins_of fun p hp => (List.mem_append.mp hp).elim (fun z => I.pin p (List.mem_append_right _ z)) fun z => by
    obtain ⟨hb, e⟩ := of_pinsAt z
    obtain ⟨f0, f1, f2, _⟩ := hf p.1 hb
    obtain ⟨o, e', d⟩ := ho p.1 hb
    rw [e] at e'; cases e'
    exact ⟨e, f0, f1, f2, d⟩
theorem Inv.unpinned {pins pl : List (Addr × Obj)} {σ : St} {H : Hp} {s : Shared} (I : Inv X (pins ++ pl) σ H s) : Inv X pins σ H s := I.pins_of fun p hp => I.pin p (List.mem_append_right _ (List.mem_append_left _ hp))
theorem ps_for {iter : Expr} {body : List Stmt} {wi : TI} {g : TG} {tb : TS} {pos : Pos} (hp : PassesOwn (model X.prog X.w) X.A X.env X.xe) (hc : X.calm = true) (hi : PI X tg iter wi) (hg : PG X tg g) (hb : PSs X body tb)
    (hs : ∀ x, foldedSetIterable iter X.env x = pure x := by intro _; rfl) : PS X (.For tg iter body [] pos) (tFor wi g tb) := by
  intro pins s σ H D I h
  refine wpAny_For (thn (hi pins s σ H _ I h) fun v s1 h1 => thn h1 fun itv s2 h2 => ?_) hs
  obtain ⟨it, fp, tn, J, H2, e, I2, T, st2, f2, W, ⟨m0, w0⟩, turn⟩ := h2
  subst e
  -- what stays true of the iterator's objects through the loop
  have stat : ∀ {H' : Hp}, (∀ b ∈ fp, H' b = none) → ∀ b ∈ fp, FpOk X pins H' b := fun hn b hb => ⟨hn b hb, (f2 b hb).2⟩
  refine codeAny_forLoop_any (fun n s' => ∃ i σ' H', Inv X pins σ' H' s' ∧ tn i s'.heap ∧ (∀ b ∈ fp, H' b = none) ∧ W i n σ' H') ?_ m0 ⟨0, σ, H2, I2, st2, fun b hb => (f2 b hb).1, w0⟩
  rintro n s3 ⟨i, σ3, H3, I3, st3, fr3, w3⟩
  rcases turn i n σ3 H3 w3 with ⟨stop, qn⟩ | ⟨go, N, hN, step⟩
  · refine wpAny_passesOwn hp (thn (T.done X rfl rfl rfl hc i pins s3 σ3 H3 X.xe I3 (stat fr3) st3 stop) fun r s4 ⟨hr, I4⟩ => ?_)
    subst hr
    exact wpAny_execs_nil ⟨σ3, H3, I4, qn⟩
  · refine wpAny_passesOwn hp (thn (T.item X rfl rfl rfl hc i pins s3 σ3 H3 X.xe I3 (stat fr3) st3 go) fun r s4 ⟨u, hr, h4⟩ => ?_)
    subst hr
    refine wpAny_passesOwn hp (thn h4 fun _ s5 ⟨x, H5, I5, r5, y5, st5, fr5⟩ => ?_)
    have I5' := I5.pinned (stat fr5) (T.obj _ _ st5)
    refine wpAny_passesOwn hp (thn (hg _ s5 σ3 H5 x u _ I5' r5 (step x H5 y5)) fun _ s6 ⟨σ6, H6, I6, q6⟩ => ?_)
    refine wpAny_passesOwn hp (thn (hb _ s6 σ6 H6 _ I6 q6) fun f s7 q7 => ?_)
    have again : ∀ {σ7 : St} {H7 : Hp}, Inv X (pins ++ pinsAt fp s5.heap) σ7 H7 s7 → N σ7 H7 → ∃ m, m < n ∧ ∃ i σ' H', Inv X pins σ' H' s7 ∧ tn i s7.heap ∧ (∀ b ∈ fp, H' b = none) ∧ W i m σ' H' := fun {σ7 H7} I7 n7 => by
      obtain ⟨m', hm, w7⟩ := hN σ7 H7 n7
      refine ⟨m', hm, i + 1, σ7, H7, I7.unpinned, T.keep _ _ _ st5 fun b hb o e => (I7.pin (b, o) (List.mem_append_right _ (List.mem_append_right _ (mem_pinsAt hb e)))).1, fun b hb => ?_, w7⟩
      obtain ⟨o, e, d⟩ := T.obj _ _ st5 b hb
      exact (I7.pin (b, o) (List.mem_append_right _ (List.mem_append_right _ (mem_pinsAt hb e)))).2.1
    cases f with
    | next => obtain ⟨σ7, H7, I7, n7⟩ := q7; exact again I7 n7
    | cont => obtain ⟨σ7, H7, I7, n7⟩ := q7; exact again I7 n7
    | brk => obtain ⟨σ7, H7, I7, q7⟩ := q7; exact ⟨σ7, H7, I7.unpinned, q7⟩
    | ret v => obtain ⟨x7, σ7, H7, I7, r7, q7⟩ := q7; exact ⟨x7, σ7, H7, I7.unpinned, r7, q7⟩
end
/-! ### the forms one uses -/
theorem for_list {K : PySem.W.Frag} {a : Addr} {xs : List V} {g : TG} {tb : TS} {D : Ends} {σ : St} {H : Hp} (Pv : Nat → St → Hp → Prop) (h0 : Pv 0 σ H) (hl : ∀ i σ H, i ≤ xs.length → Pv i σ H → SqL K H a xs)
    (hs : ∀ i x σ H, xs[i]? = some x → Pv i σ H → g x σ H fun σ2 H2 => tb { D with nx := Pv (i + 1), ct := Pv (i + 1), bk := D.nx } σ2 H2) (hd : ∀ σ H, Pv xs.length σ H → D.nx σ H) :
    ∃ W : Nat → Nat → St → Hp → Prop, (∃ m, W 0 m σ H) ∧ ∀ i m σ H, W i m σ H →
      ((Itl K a).stop i H ∧ D.nx σ H) ∨ ((Itl K a).go i H ∧ ∃ N : St → Hp → Prop, (∀ σ' H', N σ' H' → ∃ m', m' < m ∧ W (i + 1) m' σ' H') ∧ ∀ x H', (Itl K a).yld i H x H' → g x σ H' fun σ2 H2 => tb { D with nx := N, ct := N, bk := D.nx } σ2 H2) := by
  refine ⟨fun i m σ H => m = xs.length - i ∧ i ≤ xs.length ∧ Pv i σ H, ⟨xs.length, by simp, Nat.zero_le _, h0⟩, ?_⟩
  rintro i m σ H ⟨rfl, hi, p⟩
  have q := hl i σ H hi p
  by_cases hlt : i < xs.length
  · refine .inr ⟨⟨xs, xs[i], q, by simp [hlt]⟩, Pv (i + 1), fun σ' H' p' => ⟨xs.length - (i + 1), by omega, rfl, hlt, p'⟩, fun x H' y => ?_⟩
    obtain ⟨e, y⟩ := y
    subst e
    exact hs i x σ _ (y xs q) p
  · have e : i = xs.length := by omega
    subst e
    exact .inl ⟨⟨xs, q, Nat.le_refl _⟩, hd σ H p⟩
end L2
namespace L2
open PySem PySem.Spec PyProof.Rows
noncomputable abbrev R2 := V → V → Hp → VK → Prop
noncomputable def OpR (X : Cx) (f : Value → Value → Sem Value) (r : R2) : Prop :=
  ∀ (pins : List (Addr × Obj)) (s : Shared) (σ : St) (H : Hp) (x y : V) (v u : Value) (Q : VK), Inv X pins σ H s → RelV x v → RelV y u → r x y H Q →
    wpAny (model X.prog X.w) X.A (f v u) (EP X pins σ Q) X.xe s
noncomputable def UnR (X : Cx) (f : Value → Sem Value) (r : V → Hp → VK → Prop) : Prop :=
  ∀ (pins : List (Addr × Obj)) (s : Shared) (σ : St) (H : Hp) (x : V) (v : Value) (Q : VK), Inv X pins σ H s → RelV x v → r x H Q →
    wpAny (model X.prog X.w) X.A (f v) (EP X pins σ Q) X.xe s
noncomputable def CallR (X : Cx) (f : Value) (r : List V → Hp → VK → Prop) : Prop :=
  ∀ (pins : List (Addr × Obj)) (s : Shared) (σ : St) (H : Hp) (xs : List V) (us : List Value) (Q : VK), Inv X pins σ H s → Vals xs us → r xs H Q →
    wpAny (model X.prog X.w) X.A (call f us) (EP X pins σ Q) X.xe s
noncomputable def TruR (X : Cx) (r : V → Hp → (Bool → Hp → Prop) → Prop) : Prop :=
  ∀ (pins : List (Addr × Obj)) (s : Shared) (σ : St) (H : Hp) (x : V) (v : Value) (Q : Bool → Hp → Prop), Inv X pins σ H s → RelV x v → r x H Q →
    wpAny (model X.prog X.w) X.A (truthy v) (TP X pins σ Q) X.xe s

noncomputable def tOp (r : R2) (ta tb : TE) : TE := fun σ H Q => ta σ H fun x H1 => tb σ H1 fun y H2 => r x y H2 Q
noncomputable def tUn (r : V → Hp → VK → Prop) (ta : TE) : TE := fun σ H Q => ta σ H fun x H1 => r x H1 Q
noncomputable def rI (C : Int → Int → Prop) (g : Int → Int → V) : R2 := fun x y H Q => ∃ i j, x = .int i ∧ y = .int j ∧ C i j ∧ Q (g i j) H
noncomputable def rI0 (g : Int → Int → V) : R2 := fun x y H Q => ∃ i j, x = .int i ∧ y = .int j ∧ Q (g i j) H
noncomputable def rU (g : Int → V) : V → Hp → VK → Prop := fun x H Q => ∃ i, x = .int i ∧ Q (g i) H

section
variable {X : Cx} {a b c : Expr} {ta tb tc : TE} {pos : Pos}
theorem binT (ha : PE X a ta) (hb : PE X b tb) {pins : List (Addr × Obj)} {s : Shared} {σ : St} {H : Hp} {R : V → V → Hp → Prop} (I : Inv X pins σ H s)
    (h : ta σ H fun x H1 => tb σ H1 fun y H2 => R x y H2) {Q : Value → Shared → Prop} {f : Value → Value → Sem Value}
    (hf : ∀ v u s2 x y H2, Inv X pins σ H2 s2 → RelV x v → RelV y u → R x y H2 → wpAny (model X.prog X.w) X.A (f v u) Q X.xe s2) :
    wpAny (model X.prog X.w) X.A (eval a X.env) (fun v s₁ => wpAny (model X.prog X.w) X.A (eval b X.env) (fun u s₂ => wpAny (model X.prog X.w) X.A (f v u) Q X.xe s₂) X.xe s₁) X.xe s := by
  refine thn (ha pins s σ H _ I h) fun v s1 ⟨x, H1, I1, r1, q1⟩ => ?_
  refine thn (hb pins s1 σ H1 _ I1 q1) fun u s2 ⟨y, H2, I2, r2, q2⟩ => ?_
  exact hf v u s2 x y H2 I2 r1 r2 q2

theorem pe_op {op : Operator} {r : R2} (ho : OpR X (binaryOp op) r) (ha : PE X a ta) (hb : PE X b tb) : PE X (.BinOp a op b pos) (tOp r ta tb) := by
  intro pins s σ H Q I h
  exact wpAny_BinOp (binT ha hb I h fun v u s2 x y H2 I2 rx ry q => ho pins s2 σ H2 x y v u Q I2 rx ry q)
theorem pe_un {op : UnaryOp} {r : V → Hp → VK → Prop} (ho : UnR X (unaryOp op) r) (ha : PE X a ta) : PE X (.UnaryOp op a pos) (tUn r ta) := by
  intro pins s σ H Q I h
  exact UnaryOp_ (thn (ha pins s σ H _ I h) fun v s1 ⟨x, H1, I1, r1, q1⟩ => ho pins s1 σ H1 x v Q I1 r1 q1)
/-! ### ints -/
theorem opI {f : Value → Value → Sem Value} {C : Int → Int → Prop} {g : Int → Int → Int}
    (rule : ∀ (i j : Int) (t u : Tok) (s : Shared) (Q : Value → Shared → Prop) (E : Value → Shared → Prop), C i j → Q (.int (g i j) s.toks) { s with toks := s.toks + 1 } → wpAny (model X.prog X.w) X.A (f (.int i t) (.int j u)) Q E s) :
    OpR X f (rI C fun i j => .int (g i j)) := by
  intro pins s σ H x y v u Q I rx ry h
  obtain ⟨i, j, rfl, rfl, hc, q⟩ := h
  obtain ⟨t, rfl⟩ := rx
  obtain ⟨t', rfl⟩ := ry
  exact rule i j t t' s _ _ hc ⟨.int (g i j), H, I.tok _, ⟨_, rfl⟩, q⟩
theorem opI0 {f : Value → Value → Sem Value} {g : Int → Int → Int}
    (rule : ∀ (i j : Int) (t u : Tok) (s : Shared) (Q : Value → Shared → Prop) (E : Value → Shared → Prop), Q (.int (g i j) s.toks) { s with toks := s.toks + 1 } → wpAny (model X.prog X.w) X.A (f (.int i t) (.int j u)) Q E s) :
    OpR X f (rI0 fun i j => .int (g i j)) := by
  intro pins s σ H x y v u Q I rx ry h
  obtain ⟨i, j, rfl, rfl, q⟩ := h
  obtain ⟨t, rfl⟩ := rx
  obtain ⟨t', rfl⟩ := ry
  exact rule i j t t' s _ _ ⟨.int (g i j), H, I.tok _, ⟨_, rfl⟩, q⟩
theorem opB0 {f : Value → Value → Sem Value} {g : Int → Int → Bool}
    (rule : ∀ (i j : Int) (t u : Tok) (s : Shared) (Q : Value → Shared → Prop) (E : Value → Shared → Prop), Q (.bool (g i j)) s → wpAny (model X.prog X.w) X.A (f (.int i t) (.int j u)) Q E s) :
    OpR X f (rI0 fun i j => .bl (g i j)) := by
  intro pins s σ H x y v u Q I rx ry h
  obtain ⟨i, j, rfl, rfl, q⟩ := h
  obtain ⟨t, rfl⟩ := rx
  obtain ⟨t', rfl⟩ := ry
  exact rule i j t t' s _ _ ⟨.bl (g i j), H, I, rfl, q⟩

noncomputable def CDiv (i j : Int) : Prop := 0 < j ∧ j < 1073741824
noncomputable def CMul (i j : Int) : Prop := (-(2 ^ 64) < i ∧ i < 2 ^ 64) ∨ (-(2 ^ 64) < j ∧ j < 2 ^ 64)
theorem CMul.ok {i j : Int} (h : CMul i j) : IntMulOk i j := by
  rcases h with ⟨h1, h2⟩ | ⟨h1, h2⟩
  · exact .of_left (intBits_le_64 h1 h2)
  · exact .of_right (intBits_le_64 h1 h2)
theorem op_add : OpR X (binaryOp .Add) (rI0 fun i j => .int (i + j)) := opI0 fun _ _ _ _ _ _ _ q => add_int q
theorem op_sub : OpR X (binaryOp .Sub) (rI0 fun i j => .int (i - j)) := opI0 fun _ _ _ _ _ _ _ q => sub_int q
theorem op_mul : OpR X (binaryOp .Mult) (rI CMul fun i j => .int (i * j)) := opI fun _ _ _ _ _ _ _ hc q => mul_int q hc.ok
theorem op_fdiv : OpR X (binaryOp .FloorDiv) (rI CDiv fun i j => .int (i / j)) := opI fun i j _ _ _ _ _ hc q => by
  have h1 : (0 : Int) < j := hc.1
  have h2 : j < 1073741824 := hc.2
  exact floordiv_int (by omega) (by rw [Int.fdiv_eq_ediv_of_nonneg i (by omega)]; exact q) (.inl (PyProof.noPylong_small (by omega)))
theorem op_mod : OpR X (binaryOp .Mod) (rI (fun _ j => 0 < j) fun i j => .int (i % j)) := opI fun i j _ _ _ _ _ hc q => by
  have h1 : (0 : Int) < j := hc
  exact mod_int' (by omega) (by rw [Int.fmod_eq_emod_of_nonneg i (by omega)]; exact q)
theorem unI {f : Value → Sem Value} {g : Int → Int}
    (rule : ∀ (i : Int) (t : Tok) (s : Shared) (Q : Value → Shared → Prop) (E : Value → Shared → Prop), Q (.int (g i) s.toks) { s with toks := s.toks + 1 } → wpAny (model X.prog X.w) X.A (f (.int i t)) Q E s) :
    UnR X f (rU fun i => .int (g i)) := by
  intro pins s σ H x v Q I rx h
  obtain ⟨i, rfl, q⟩ := h
  obtain ⟨t, rfl⟩ := rx
  exact rule i t s _ _ ⟨.int (g i), H, I.tok _, ⟨_, rfl⟩, q⟩
theorem un_neg : UnR X (unaryOp .USub) (rU fun i => .int (-i)) := unI fun _ _ _ _ _ q => neg_int q
/-! ### bools among ints: n += (a < b) -/
end
/-! ### comparisons -/
noncomputable def scal : V → V → Bool
  | .non, .non => true | .non, .int _ => true | .int _, .non => true | .non, .bl _ => true | .bl _, .non => true | .non, .str _ => true | .str _, .non => true
  | .int _, .int _ => true | .bl _, .bl _ => true | .str _, .str _ => true | .byt _, .byt _ => true
  | .int _, .str _ => true | .str _, .int _ => true | .bl _, .str _ => true | .str _, .bl _ => true
  | _, _ => false
noncomputable def rEq : R2 := fun x y H Q => scal x y = true ∧ Q (.bl (decide (x = y))) H
noncomputable def rNe : R2 := fun x y H Q => scal x y = true ∧ Q (.bl (!decide (x = y))) H

theorem dec_int {i j : Int} : decide (V.int i = V.int j) = (i == j) := by
  rw [Bool.eq_iff_iff]
  simp
theorem dec_bl {i j : Bool} : decide (V.bl i = V.bl j) = (i == j) := by
  rw [Bool.eq_iff_iff]
  simp
theorem dec_str {i j : Str} : decide (V.str i = V.str j) = (i == j) := by
  rw [Bool.eq_iff_iff]
  simp
theorem dec_byt {i j : Array UInt8} : decide (V.byt i = V.byt j) = (i.toList == j.toList) := by
  rw [Bool.eq_iff_iff]
  cases i
  cases j
  simp

section
variable {X : Cx} {a b c : Expr} {ta tb tc : TE} {pos : Pos}
theorem fin_bl {pins : List (Addr × Obj)} {σ : St} {H : Hp} {s : Shared} {Q : VK} {k k' : Bool} (I : Inv X pins σ H s) (q : Q (.bl k) H) (e : k = k') : EP X pins σ Q (.bool k') s := by
  subst e
  exact ⟨.bl k, H, I, rfl, q⟩
theorem op_eq : OpR X (compareOp .Eq) rEq := by
  intro pins s σ H x y v u Q I rx ry h
  obtain ⟨hs, q⟩ := h
  cases x with
  | non =>
    cases rx
    cases y with
    | non => cases ry; exact PySem.EqNone.eq_none_none (fin_bl I q (by simp))
    | bl j => cases ry; exact PySem.EqNone.eq_none_bool (fin_bl I q (by simp))
    | int j => obtain ⟨t', rfl⟩ := ry; exact PySem.EqNone.eq_none_int (fin_bl I q (by simp))
    | str j => obtain ⟨t', rfl⟩ := ry; exact PySem.EqNone.eq_none_str (fin_bl I q (by simp))
    | _ => exact absurd (show false = true from hs) Bool.false_ne_true
  | bl i =>
    cases rx
    cases y with
    | non => cases ry; exact PySem.EqNone.eq_bool_none (fin_bl I q (by simp))
    | bl j => cases ry; exact eq_bool (fin_bl I q dec_bl)
    | str j => obtain ⟨t', rfl⟩ := ry; exact PySem.EqMixed.eq_bool_str (fin_bl I q (by simp))
    | _ => exact absurd (show false = true from hs) Bool.false_ne_true
  | int i =>
    obtain ⟨t, rfl⟩ := rx
    cases y with
    | non => cases ry; exact PySem.EqNone.eq_int_none (fin_bl I q (by simp))
    | int j => obtain ⟨t', rfl⟩ := ry; exact eq_int (fin_bl I q dec_int)
    | str j => obtain ⟨t', rfl⟩ := ry; exact PySem.EqMixed.eq_int_str (fin_bl I q (by simp))
    | _ => exact absurd (show false = true from hs) Bool.false_ne_true
  | str i =>
    obtain ⟨t, rfl⟩ := rx
    cases y with
    | non => cases ry; exact PySem.EqNone.eq_str_none (fin_bl I q (by simp))
    | bl j => cases ry; exact PySem.EqMixed.eq_str_bool (fin_bl I q (by simp))
    | int j => obtain ⟨t', rfl⟩ := ry; exact PySem.EqMixed.eq_str_int (fin_bl I q (by simp))
    | str j => obtain ⟨t', rfl⟩ := ry; exact eq_str (fin_bl I q dec_str)
    | _ => exact absurd (show false = true from hs) Bool.false_ne_true
  | byt i =>
    obtain ⟨t, rfl⟩ := rx
    cases y with
    | byt j => obtain ⟨t', rfl⟩ := ry; exact PySem.W.eq_bytes (fin_bl I q dec_byt)
    | _ => exact absurd (show false = true from hs) Bool.false_ne_true
  | _ => cases y <;> exact absurd (show false = true from hs) Bool.false_ne_true
theorem op_ne : OpR X (compareOp .NotEq) rNe := by
  intro pins s σ H x y v u Q I rx ry h
  obtain ⟨hs, q⟩ := h
  cases x with
  | non =>
    cases rx
    cases y with
    | non => cases ry; exact PySem.EqNone.ne_none_none (fin_bl I q (by simp))
    | bl j => cases ry; exact PySem.EqNone.ne_none_bool (fin_bl I q (by simp))
    | int j => obtain ⟨t', rfl⟩ := ry; exact PySem.EqNone.ne_none_int (fin_bl I q (by simp))
    | str j => obtain ⟨t', rfl⟩ := ry; exact PySem.EqNone.ne_none_str (fin_bl I q (by simp))
    | _ => exact absurd (show false = true from hs) Bool.false_ne_true
  | bl i =>
    cases rx
    cases y with
    | non => cases ry; exact PySem.EqNone.ne_bool_none (fin_bl I q (by simp))
    | bl j => cases ry; exact ne_bool (fin_bl I q (congrArg not dec_bl))
    | str j => obtain ⟨t', rfl⟩ := ry; exact PySem.EqMixed.ne_bool_str (fin_bl I q (by simp))
    | _ => exact absurd (show false = true from hs) Bool.false_ne_true
  | int i =>
    obtain ⟨t, rfl⟩ := rx
    cases y with
    | non => cases ry; exact PySem.EqNone.ne_int_none (fin_bl I q (by simp))
    | int j => obtain ⟨t', rfl⟩ := ry; exact ne_int (fin_bl I q (congrArg not dec_int))
    | str j => obtain ⟨t', rfl⟩ := ry; exact PySem.EqMixed.ne_int_str (fin_bl I q (by simp))
    | _ => exact absurd (show false = true from hs) Bool.false_ne_true
  | str i =>
    obtain ⟨t, rfl⟩ := rx
    cases y with
    | non => cases ry; exact PySem.EqNone.ne_str_none (fin_bl I q (by simp))
    | bl j => cases ry; exact PySem.EqMixed.ne_str_bool (fin_bl I q (by simp))
    | int j => obtain ⟨t', rfl⟩ := ry; exact PySem.EqMixed.ne_str_int (fin_bl I q (by simp))
    | str j => obtain ⟨t', rfl⟩ := ry; exact ne_str (fin_bl I q (congrArg not dec_str))
    | _ => exact absurd (show false = true from hs) Bool.false_ne_true
  | byt i =>
    obtain ⟨t, rfl⟩ := rx
    cases y with
    | byt j => obtain ⟨t', rfl⟩ := ry; exact PySem.W.ne_bytes (fin_bl I q (congrArg not dec_byt))
    | _ => exact absurd (show false = true from hs) Bool.false_ne_true
  | _ => cases y <;> exact absurd (show false = true from hs) Bool.false_ne_true

theorem op_lt : OpR X (compareOp .Lt) (rI0 fun i j => .bl (decide (i < j))) := opB0 fun _ _ _ _ _ _ _ q => lt_int q
theorem op_le : OpR X (compareOp .LtE) (rI0 fun i j => .bl (decide (i ≤ j))) := opB0 fun _ _ _ _ _ _ _ q => le_int q
theorem op_gt : OpR X (compareOp .Gt) (rI0 fun i j => .bl (decide (j < i))) := opB0 fun _ _ _ _ _ _ _ q => gt_int q
theorem op_in_str : OpR X (compareOp .In) (fun x y H Q => ∃ i j, x = .str i ∧ y = .str j ∧ Q (.bl (!(Builtin.Str.occurrences j i 0 j.length 1).isEmpty)) H) := by
  intro pins s σ H x y v u Q I rx ry h
  obtain ⟨i, j, rfl, rfl, q⟩ := h
  obtain ⟨t, rfl⟩ := rx
  obtain ⟨t', rfl⟩ := ry
  exact in_str (fin_bl I q rfl)

theorem nomark (b : Expr) {op : CmpOp} (h : op ≠ .In := by decide) (h2 : op ≠ .NotIn := by decide) : behindInMarks op b = false := by
  have e1 : (op == CmpOp.In) = false := by cases op <;> first | rfl | exact absurd rfl h
  have e2 : (op == CmpOp.NotIn) = false := by cases op <;> first | rfl | exact absurd rfl h2
  cases b <;> simp [behindInMarks, e1, e2]
theorem pe_cmpR {op : CmpOp} {r : R2} (ho : OpR X (compareOp op) r) (ha : PE X a ta) (hb : PE X b tb) (hm : behindInMarks op b = false) : PE X (.Compare a [op] [b] pos) (tOp r ta tb) := by
  intro pins s σ H Q I h
  exact wpAny_Compare1 (binT ha hb I h fun v u s2 x y H2 I2 rx ry q => ho pins s2 σ H2 x y v u Q I2 rx ry q) hm
noncomputable def tTest (t : TE) : TT := fun σ H Q => t σ H fun x H' => ∃ k, x = .bl k ∧ Q k H'
theorem pt_cmpR {op : CmpOp} {r : R2} (ho : OpR X (compareOp op) r) (ha : PE X a ta) (hb : PE X b tb) (hm : behindInMarks op b = false) : PT X (.Compare a [op] [b] pos) (tTest (tOp r ta tb)) := by
  intro pins s σ H Q I h
  refine wpAny_isTrue_Compare1 (thn (ha pins s σ H _ I h) fun v s1 ⟨x, H1, I1, r1, q1⟩ => thn (hb pins s1 σ H1 _ I1 q1) fun u s2 ⟨y, H2, I2, r2, q2⟩ =>
    thn (ho pins s2 σ H2 x y v u _ I2 r1 r2 q2) fun c s3 ⟨z, H3, I3, r3, k, e, q3⟩ => ?_) hm
  subst e
  cases r3
  exact wpAny_truthy_bool ⟨H3, I3, q3⟩
noncomputable def tChain (r r' : R2) (ta tb tc : TE) : TE := fun σ H Q => ta σ H fun x H1 => tb σ H1 fun y H2 => r x y H2 fun z H3 => ∃ k, z = .bl k ∧
  (if k = true then tc σ H3 fun w' H4 => r' y w' H4 Q else Q (.bl false) H3)
theorem pe_chain {op op' : CmpOp} {r r' : R2} (ho : OpR X (compareOp op) r) (ho' : OpR X (compareOp op') r') (ha : PE X a ta) (hb : PE X b tb) (hc : PE X c tc)
    (hm : lastMarks [op, op'] [b, c] = false := by with_unfolding_all rfl) : PE X (.Compare a [op, op'] [b, c] pos) (tChain r r' ta tb tc) := by
  intro pins s σ H Q I h
  refine Compare_chain (thn (ha pins s σ H _ I h) fun v s1 ⟨x, H1, I1, r1, q1⟩ => chain_link (thn (hb pins s1 σ H1 _ I1 q1) fun u s2 ⟨y, H2, I2, r2, q2⟩ =>
    thn (ho pins s2 σ H2 x y v u _ I2 r1 r2 q2) fun d s3 ⟨z, H3, I3, r3, k, e, q3⟩ => ?_)) hm
  subst e
  cases r3
  refine wpAny_truthy_bool ?_
  cases k with
  | false => exact ite_ff ⟨.bl false, H3, I3, rfl, q3⟩
  | true => exact ite_tt (chain_last (thn (hc pins s3 σ H3 _ I3 q3) fun w' s4 ⟨z', H4, I4, r4, q4⟩ => ho' pins s4 σ H4 y z' u w' Q I4 r2 r4 q4))
/-! ### truth -/
noncomputable def TruV (K : PySem.W.Frag) (x : V) (H : Hp) (k : Bool) : Prop :=
  match x with
  | .non => k = false
  | .bl b => k = b
  | .int i => k = (i != 0)
  | .str y => y.length ≤ sizeLine ∧ k = ((y.length : Int) != 0)
  | .byt y => y.size ≤ sizeLine ∧ k = ((y.size : Int) != 0)
  | .ref p => (∃ xs, SqL K H p xs ∧ k = !xs.isEmpty) ∨ (∃ xs, SqT K H p xs ∧ k = !xs.isEmpty) ∨ ∃ kvs, H p = some (.dK kvs) ∧ k = !kvs.isEmpty
  | _ => False
theorem isEmpty_kv {κ : Type} {kvs : List (κ × V)} {vs : List (κ × Value)} (r : KV kvs vs) : (!vs.isEmpty) = !kvs.isEmpty := by
  cases r <;> rfl
theorem isEmpty_of {xs : List V} {its : List Value} (r : Vals xs its) : (!its.toArray.isEmpty) = !xs.isEmpty := by
  cases r <;> simp
theorem line63 : (sizeLine : Nat) < 2 ^ 63 := by rw [sizeLine_eq]; decide
theorem tru_ok : TruR X (fun x H Q => ∃ k, TruV X.K x H k ∧ Q k H) := by
  intro pins s σ H x v Q I rx h
  obtain ⟨k, e, q⟩ := h
  have hl := line63
  have hs : sizeLine = 16777216 := sizeLine_eq
  cases x with
  | non =>
    cases rx
    have e' : k = false := e
    subst e'
    exact truthy_none ⟨H, I, q⟩
  | bl b =>
    cases rx
    have e' : k = b := e
    subst e'
    exact wpAny_truthy_bool ⟨H, I, q⟩
  | int i =>
    obtain ⟨t, rfl⟩ := rx
    have e' : k = (i != 0) := e
    subst e'
    exact PySem.P.truthy_int ⟨H, I, q⟩
  | str y =>
    obtain ⟨t, rfl⟩ := rx
    obtain ⟨hy, e'⟩ : y.length ≤ sizeLine ∧ k = ((y.length : Int) != 0) := e
    subst e'
    exact PySem.P.truthy_str (by omega) ⟨H, I.tok _, q⟩
  | byt y =>
    obtain ⟨t, rfl⟩ := rx
    obtain ⟨hy, e'⟩ : y.size ≤ sizeLine ∧ k = ((y.size : Int) != 0) := e
    subst e'
    exact PySem.W.truthy_bytes (by omega) ⟨H, I.tok _, q⟩
  | ref p =>
    cases rx
    have e' : (∃ xs, SqL X.K H p xs ∧ k = !xs.isEmpty) ∨ (∃ xs, SqT X.K H p xs ∧ k = !xs.isEmpty) ∨ ∃ kvs, H p = some (.dK kvs) ∧ k = !kvs.isEmpty := e
    rcases e' with ⟨xs, hx, e'⟩ | ⟨xs, hx, e'⟩ | ⟨kvs, hx, e'⟩
    · subst e'
      obtain ⟨its, r, pl, hz⟩ := I.list hx
      have hlen := r.length
      exact wpAny_truthy_list pl.isList (by simp only [List.size_toArray]; omega) ⟨H, I.tok _, by rw [isEmpty_of r]; exact q⟩
    · subst e'
      obtain ⟨its, r, pl, hz⟩ := I.tuple hx
      have hlen := r.length
      exact truthy_tuple pl (by simp only [List.size_toArray]; omega) ⟨H, I.tok _, by rw [isEmpty_of r]; exact q⟩
    · subst e'
      obtain ⟨hz, hS, vs, r, m⟩ : kvs.length ≤ sizeLine ∧ (p == sysModules) = false ∧ ∃ vs, KV kvs vs ∧ s.heap.DictOf (mixKind X.prog X.w) p vs := I.hok p _ hx
      have hlen : kvs.length = vs.length := Paired.length r
      exact wpAny_truthy_dict hS m (by omega) ⟨H, I.tok _, by rw [isEmpty_kv r]; exact q⟩
  | _ => exact (show False from e).elim
theorem pt_truth (ha : PE X a ta) (he : ∀ whole, isTrue a X.env whole = (do let v ← whole; standAt a.pos; holding [v] (truthy v))) :
    PT X a (fun σ H Q => ta σ H fun x H' => ∃ k, TruV X.K x H' k ∧ Q k H') := by
  intro pins s σ H Q I h
  exact isTrue_plain (thn (ha pins s σ H _ I h) fun v s1 ⟨x, H1, I1, r1, q1⟩ => tru_ok pins s1 σ H1 x v Q I1 r1 q1) (he _)

/-! ### strs and bytes -/
/-! ### scalar builtins, by CallR -/
theorem vals1 {x : V} {us : List Value} (r : Vals [x] us) : ∃ u, us = [u] ∧ RelV x u := by
  cases r with
  | cons r1 r2 => cases r2; exact ⟨_, rfl, r1⟩
theorem call_int1 : CallR X (.type "int") (fun xs H Q => (∃ i, xs = [.int i] ∧ Q (.int i) H) ∨ ∃ k, xs = [.bl k] ∧ Q (.int (if k then 1 else 0)) H) := by
  intro pins s σ H xs us Q I r h
  rcases h with ⟨i, rfl, q⟩ | ⟨k, rfl, q⟩
  · obtain ⟨u, rfl, t, rfl⟩ := vals1 r
    exact call_int_int ⟨.int i, H, I, ⟨_, rfl⟩, q⟩
  · obtain ⟨u, rfl, r1⟩ := vals1 r
    cases r1
    exact call_int_bool ⟨.int (if k then 1 else 0), H, I.tok _, ⟨_, rfl⟩, q⟩
end
end L2
namespace L2
open PySem PySem.Spec PyProof.Rows
/-! ### an instance, its attributes a map -/
structure ObjM (h : Heap) (x dx C : Addr) (mA : Str → Option Value) : Prop where
  obj : h.get? x = some (PySem.W.instObj C dx)
  ns : h.Ns1 dx mA
  ne : dx ≠ x

theorem lookIn_ns {h : Heap} {dx : Addr} {mA : Str → Option Value} (n : h.Ns1 dx mA) : ∃ od, h.get? dx = some od ∧ ∀ name, PySem.W.lookIn name od = some (mA name) := by
  obtain ⟨o, es, ep, ho, hd, hk, _, hm⟩ := n
  refine ⟨o, ho, fun name => ?_⟩
  have e := hm name
  unfold nsFind findBy at e
  rw [← Array.find?_toList] at e
  unfold PySem.W.lookIn
  rw [hd]
  dsimp only
  split
  · rename_i y q
    rw [q] at e
    exact congrArg some e
  · rename_i q
    rw [q] at e
    have a : es.toList.any (·.refKey) = false := by
      rw [List.any_eq_false]
      intro y hy
      obtain ⟨z, t, hkey⟩ := hk y (Array.mem_toList_iff.mp hy)
      simp [DictEntry.refKey, hkey]
    have a' : ¬ es.toList.any (·.refKey) = true := by rw [a]; exact Bool.false_ne_true
    rw [if_neg a']
    exact congrArg some e

theorem ObjM.look {h : Heap} {x dx C : Addr} {mA : Str → Option Value} (I : ObjM h x dx C mA) : ∃ od, PySem.W.InstAt h x (PySem.W.instObj C dx) C (some od) ∧ ∀ name, PySem.W.lookIn name od = some (mA name) :=
  let ⟨od, ho, hl⟩ := lookIn_ns I.ns
  ⟨od, ⟨I.obj, rfl, rfl, ho⟩, hl⟩

section
variable {prog : Program} {w : World} {A : Around} {E : Value → Shared → Prop} {s : Shared} {K : PySem.W.Frag} {x dx C f : Addr} {mA : Str → Option Value} {name : Str} {v : Value}
theorem get_map {expr : Bool} {Q : Value → Shared → Prop} (X : K.In s.heap) (I : ObjM s.heap x dx C mA) (hg : PySem.W.plainGet K C name = true) (hh : PySem.W.hasDictIn K C = true)
    (ha : PySem.W.findIn K (.ref C) name = some none) (hv : mA name = some v) (hv' : PySem.W.handedIn v = true) (h : Q v { s with toks := s.toks + 1 }) :
    wpAny (model prog w) A (getAttr (.ref x) name expr) Q E s := by
  obtain ⟨od, J, hl⟩ := I.look
  exact PySem.W.get_value X J (PySem.W.plainGet_of hg).1 (PySem.W.findObj_own hh ha rfl (by rw [hl, hv])) hv' h

theorem get_meth {pl : Sem Bool} {Q : Value × List Value → Shared → Prop} (X : K.In s.heap) (I : ObjM s.heap x dx C mA) (hg : PySem.W.plainGet K C name = true)
    (hf : PySem.W.findIn K (.ref C) name = some (some (.ref f))) (ht : PySem.W.isFn K (.ref f) = true) (hv : mA name = none) (h : Q (.ref f, [.ref x]) s) :
    wpAny (model prog w) A (getMethod (.ref x) name pl) Q E s := by
  obtain ⟨od, J, hl⟩ := I.look
  exact PySem.W.method_fn X J (PySem.W.plainGet_of hg).1 (PySem.W.plainGet_of hg).2 hf (beq_iff_eq.mp ht) (by show (PySem.W.lookIn name od).map (·.isSome) = some false; rw [hl, hv]; rfl) h

theorem set_map {ns : List Str} {Q : Unit → Shared → Prop} (X : K.In s.heap) (I : ObjM s.heap x dx C mA)
    (hs : PySem.W.findIn K (.ref C) "__setattr__" = some (some (.builtin "object.__setattr__"))) (hp : PySem.W.plainOver K C = true) (ht : PySem.W.takerIn K C name = some none) (hh : PySem.W.hasDictIn K C = true)
    (hw : PySem.Within mA ns) (hsz : ns.length ≤ sizeLine)
    (h : ∀ h', ObjM h' x dx C (fun y => if y = name then some v else mA y) → Heap.SameBut dx s.heap h' → Q () { s with heap := h', toks := s.toks + 2 }) :
    wpAny (model prog w) A (setAttr (.ref x) name v) Q E s := by
  obtain ⟨od, J, hl⟩ := I.look
  refine PySem.W.set_plain X J hs (PySem.W.osa_open (s := { s with toks := s.toks + 1 }) (r := none) X J hp ht fun b => ?_)
  obtain ⟨cd, hc, hd'⟩ := PySem.W.any_some hh
  have hx : s.heap.get? x = some ⟨.ref C, some dx, .plain, #[]⟩ := I.obj
  refine wpAny_bind (wpAny_pure (wpAny_bind (wpAny_bind (wpAny_loadPart hx (wpAny_bind (PySem.W.Looks.here (s := { s with toks := s.toks + 1 }) (PySem.W.looks_clsIn X hc) ?_))))))
  rw [hd']
  refine wpAny_pure (a := some dx) (wpAny_bind (wpAny_pure (wpAny_bind ?_)))
  refine wpAny_nsSet1 (s := { s with toks := s.toks + 1 }) I.ns fun h' hn2 hs2 => ?_
  obtain ⟨oD, esD, epD, hoD, hdD, hcD⟩ := hn2.count (PySem.Within.cons name v hw)
  refine wpAny_bind (wpAny_lookBehind hoD (by rw [hdD]; exact pastItsLine_dict (Nat.le_trans hcD (by rw [List.length_cons]; omega))) ?_)
  exact wpAny_pure (h _ ⟨(hs2.2 _ (Ne.symm I.ne)).trans I.obj, hn2, I.ne⟩ hs2)

theorem make_map {R : Result → Shared → Prop} {vs : List Value} {kw : List (Str × Value)} (X : K.In s.heap) (hm : PySem.W.makesIn K C = true)
    (hi : PySem.W.findIn K (.ref C) "__init__" = some (some (.ref f))) (hf : PySem.W.typeIn K (.ref f) = some (.type "function"))
    (h : codeAny (model prog w) (A.under (.builtin "type.__call__" ⟨.ref C :: vs, kw⟩)) (.call (.ref f) ⟨.ref (s.heap.objs.size + 1) :: vs, kw⟩) (PySem.W.InitBack (s.heap.objs.size + 1) R)
      { s with heap := (s.heap.push PySem.W.emptyDict).push (PySem.W.instObj C s.heap.objs.size) }) :
    codeAny (model prog w) A (.call (.ref C) ⟨vs, kw⟩) R s := by
  obtain ⟨hh, g, d, t, os⟩ := s
  exact PySem.W.make_core (PySem.W.makes_of X hm) (PySem.W.looks_findIn X hi) (fun self => PySem.W.bind_fn X self hf) (.inl rfl) h
end
/-! ### the attributes as a list of pairs -/
noncomputable def putF (f : Str) (v : V) : List (Str × V) → List (Str × V)
  | [] => [(f, v)]
  | (g, x) :: r => if g = f then (g, v) :: r else (g, x) :: putF f v r
theorem lookup_putF (f g : Str) (v : V) : ∀ fs : List (Str × V), (putF f v fs).lookup g = if g = f then some v else fs.lookup g
  | [] => by
    show List.lookup g [(f, v)] = _
    by_cases h : g = f
    · have hb : (g == f) = true := beq_iff_eq.mpr h
      simp only [List.lookup, hb, if_pos h]
    · have hb : (g == f) = false := beq_eq_false_iff_ne.mpr h
      simp only [List.lookup, hb, if_neg h]
  | (k, x) :: r => by
    have ih := lookup_putF f g v r
    rw [show putF f v ((k, x) :: r) = (if k = f then (k, v) :: r else (k, x) :: putF f v r) from rfl]
    by_cases hk : k = f
    · rw [if_pos hk]
      by_cases h : g = k
      · have hb : (g == k) = true := beq_iff_eq.mpr h
        simp only [List.lookup, hb, if_pos (h.trans hk)]
      · have hb : (g == k) = false := beq_eq_false_iff_ne.mpr h
        simp only [List.lookup, hb, if_neg (fun e : g = f => h (e.trans hk.symm))]
    · rw [if_neg hk]
      by_cases h : g = k
      · have hb : (g == k) = true := beq_iff_eq.mpr h
        simp only [List.lookup, hb, if_neg (fun e : g = f => hk (h.symm.trans e))]
      · have hb : (g == k) = false := beq_eq_false_iff_ne.mpr h
        simp only [List.lookup, hb]
        exact ih
theorem keys_putF (f : Str) (v : V) : ∀ fs : List (Str × V), f ∈ (putF f v fs).map (·.1) ∧ ∀ g, g ∈ fs.map (·.1) → g ∈ (putF f v fs).map (·.1)
  | [] => ⟨by simp [putF], fun g h => by simp at h⟩
  | (k, x) :: r => by
    obtain ⟨i1, i2⟩ := keys_putF f v r
    rw [show putF f v ((k, x) :: r) = (if k = f then (k, v) :: r else (k, x) :: putF f v r) from rfl]
    by_cases hk : k = f
    · rw [if_pos hk]
      subst hk
      exact ⟨by simp, fun g h => by simpa using h⟩
    · rw [if_neg hk]
      refine ⟨?_, fun g h => ?_⟩
      · rw [List.map_cons]
        exact List.mem_cons_of_mem _ i1
      · rw [List.map_cons] at h ⊢
        rcases List.mem_cons.mp h with e | e
        · exact List.mem_cons.mpr (.inl e)
        · exact List.mem_cons_of_mem _ (i2 g e)
theorem length_putF (f : Str) (v : V) : ∀ fs : List (Str × V), (putF f v fs).length ≤ fs.length + 1
  | [] => by simp [putF]
  | (k, x) :: r => by
    have ih := length_putF f v r
    rw [show putF f v ((k, x) :: r) = (if k = f then (k, v) :: r else (k, x) :: putF f v r) from rfl]
    by_cases hk : k = f
    · rw [if_pos hk, List.length_cons, List.length_cons]; omega
    · rw [if_neg hk, List.length_cons, List.length_cons]; omega

theorem RelO.some_of {v : V} {o : Option Value} (r : RelO (some v) o) : ∃ u, o = some u ∧ RelV v u := by
  cases o with
  | none => exact (show False from r).elim
  | some u => exact ⟨u, rfl, r⟩
theorem RelO.none_of {o : Option Value} (r : RelO none o) : o = none := by
  cases o with
  | none => rfl
  | some u => exact (show False from r).elim
theorem handed_of {v : V} {u : Value} (r : RelV v u) : PySem.W.handedIn u = true := by
  cases v with
  | non => cases (show u = Value.none from r); rfl
  | bl b => cases (show u = Value.bool b from r); rfl
  | int i => obtain ⟨t, e⟩ := (show ∃ t, u = Value.int i t from r); cases e; rfl
  | str x => obtain ⟨t, e⟩ := (show ∃ t, u = Value.str x t from r); cases e; rfl
  | byt b => obtain ⟨t, e⟩ := (show ∃ t, u = Value.bytes b t from r); cases e; rfl
  | flt b => obtain ⟨t, e⟩ := (show ∃ t, u = Value.float b t from r); cases e; rfl
  | ref a => cases (show u = Value.ref a from r); rfl
  | ty n => cases (show u = Value.type n from r); rfl

section
variable {P : Program} {w : World} {H H' : Hp} {h h' : Heap} {a C dx : Addr} {fs fs' : List (Str × V)}
theorem ins_get (hok : HOk P w H h) (e : H a = some (.ins C dx fs)) : ∃ mA, ObjM h a dx C mA ∧ (∀ f, RelO (fs.lookup f) (mA f)) ∧ PySem.Within mA (fs.map (·.1)) ∧ fs.length ≤ 1000 ∧ H dx = some (.own a) := by
  obtain ⟨d, z, ne, ob, mA, n, r, q⟩ := (show ObjOk P w H h a (.ins C dx fs) from hok a _ e)
  exact ⟨mA, ⟨ob, n, ne⟩, r, q, z, d⟩
end
/-! ### what of the text a class must have -/
structure Cls (K : PySem.W.Frag) (C : Addr) : Prop where
  pg : PySem.W.plainGet K C Str.empty = true
  hd : PySem.W.hasDictIn K C = true
  po : PySem.W.plainOver K C = true
  sa : PySem.W.findIn K (.ref C) "__setattr__" = some (some (.builtin "object.__setattr__"))
theorem Cls.get {K : PySem.W.Frag} {C : Addr} (c : Cls K C) (f : Str) : PySem.W.plainGet K C f = true := c.pg
noncomputable def NoAttr (K : PySem.W.Frag) (C : Addr) (f : Str) : Prop := PySem.W.findIn K (.ref C) f = some none
theorem NoAttr.taker {K : PySem.W.Frag} {C : Addr} {f : Str} (n : NoAttr K C f) : PySem.W.takerIn K C f = some none := by
  unfold PySem.W.takerIn
  rw [show PySem.W.findIn K (.ref C) f = some none from n]
  rfl
structure Meth (K : PySem.W.Frag) (C : Addr) (m : Str) (f : Addr) : Prop where
  at_ : PySem.W.findIn K (.ref C) m = some (some (.ref f))
  fn : PySem.W.isFn K (.ref f) = true
  kp : PySem.W.keepIn K (.ref f) = true

section
variable {X : Cx} {pins : List (Addr × Obj)} {σ : St} {H : Hp} {s : Shared} {a C dx : Addr} {fs : List (Str × V)} {f : Str} {v : V} {A : Around} {E : Value → Shared → Prop}
theorem getattr_ok {b : Bool} {Q : Value → Shared → Prop} (I : Inv X pins σ H s) (e : H a = some (.ins C dx fs)) (c : Cls X.K C) (n : NoAttr X.K C f) (l : fs.lookup f = some v)
    (h : ∀ u s', Inv X pins σ H s' → RelV v u → Q u s') : wpAny (model X.prog X.w) A (getAttr (.ref a) f b) Q E s := by
  obtain ⟨mA, O, r, _, _, _⟩ := ins_get I.hok e
  obtain ⟨u, hu, ru⟩ := RelO.some_of (v := v) (o := mA f) (by rw [← l]; exact r f)
  exact get_map I.kIn O (c.get f) c.hd n hu (handed_of ru) (h u _ (I.tok _) ru)

theorem getmeth_ok {m : Str} {g : Addr} {pl : Sem Bool} {Q : Value × List Value → Shared → Prop} (I : Inv X pins σ H s) (e : H a = some (.ins C dx fs)) (c : Cls X.K C) (k : Meth X.K C m g) (l : fs.lookup m = none)
    (h : Q (.ref g, [.ref a]) s) : wpAny (model X.prog X.w) A (getMethod (.ref a) m pl) Q E s := by
  obtain ⟨mA, O, r, _, _, _⟩ := ins_get I.hok e
  have hn : mA m = none := RelO.none_of (by rw [← l]; exact r m)
  exact get_meth I.kIn O (c.get m) k.at_ k.fn hn h

theorem setattr_ok {y : V} {u : Value} {Q : Unit → Shared → Prop} (I : Inv X pins σ H s) (e : H a = some (.ins C dx fs)) (c : Cls X.K C) (n : NoAttr X.K C f) (hl : fs.length < 1000) (ry : RelV y u)
    (h : ∀ s', Inv X pins σ (upd H a (.ins C dx (putF f y fs))) s' → Q () s') : wpAny (model X.prog X.w) A (setAttr (.ref a) f u) Q E s := by
  obtain ⟨mA, O, r, wi, _, ho⟩ := ins_get I.hok e
  have hz : (fs.map (·.1)).length ≤ sizeLine := by rw [List.length_map, sizeLine_eq]; omega
  refine set_map I.kIn O c.sa c.po n.taker c.hd wi hz fun h' O' sb => h _ ?_
  have hd : ∃ o, h'.get? dx = some o := let ⟨o, _, _, e', _⟩ := O'.ns; ⟨o, e'⟩
  refine I.write (x := a) (e := dx) (by rw [e]; exact True.intro) (.inr ho) (fun b q hb z => (sb.2 b hb).trans z) hd ?_
  refine ⟨by rw [upd_ne O.ne]; exact ho, ?_, O.ne, O'.obj, _, O'.ns, fun g => ?_, fun g hg => ?_⟩
  · have := length_putF f y fs; omega
  · show RelO ((putF f y fs).lookup g) (if g = f then some u else mA g)
    rw [lookup_putF]
    by_cases q : g = f
    · rw [if_pos q, if_pos q]; exact ry
    · rw [if_neg q, if_neg q]; exact r g
  · by_cases q : g = f
    · rw [q]; exact (keys_putF f y fs).1
    · refine (keys_putF f y fs).2 g (wi g fun z => hg ?_)
      show (if g = f then some u else mA g) = none
      rw [if_neg q]; exact z

theorem Inv.made (I : Inv X pins σ H s) : Inv X pins σ (upd (upd H s.heap.objs.size (.own (s.heap.objs.size + 1))) (s.heap.objs.size + 1) (.ins C s.heap.objs.size []))
    { s with heap := (s.heap.push PySem.W.emptyDict).push (PySem.W.instObj C s.heap.objs.size) } := by
  have e1 : (s.heap.push PySem.W.emptyDict).get? s.heap.objs.size = some PySem.W.emptyDict := Heap.get?_push_size s.heap rfl
  have e2 : ((s.heap.push PySem.W.emptyDict).push (PySem.W.instObj C s.heap.objs.size)).get? (s.heap.objs.size + 1) = some (PySem.W.instObj C s.heap.objs.size) := by
    have := Heap.get?_push_size (s.heap.push PySem.W.emptyDict) (o := PySem.W.instObj C s.heap.objs.size) rfl
    rwa [Heap.size_push] at this
  have e3 : (s.heap.push PySem.W.emptyDict).Ns s.heap.objs.size (fun _ => none) := ⟨PySem.W.emptyDict, #[], _, e1, rfl, (fun e he => absurd he (by simp)), fun _ => rfl⟩
  have I1 := I.laid (a := s.heap.objs.size) (o := .own (s.heap.objs.size + 1)) (h' := s.heap.push PySem.W.emptyDict) (t' := s.toks) (fun b u q => Heap.get?_push_of_some _ q) (Nat.le_refl _) ⟨_, e1⟩
  refine I1.laid (a := s.heap.objs.size + 1) (o := .ins C s.heap.objs.size []) (t' := s.toks) (fun b u q => Heap.get?_push_of_some _ q) (Nat.le_of_eq (Heap.size_push _ _)) ?_
  have ne : s.heap.objs.size ≠ s.heap.objs.size + 1 := Nat.ne_of_lt (Nat.lt_succ_self _)
  refine ⟨by rw [upd_ne ne, upd_same], Nat.zero_le _, ne, e2, fun _ => none, (Heap.Ns1.of_empty e3).at fun o q => Heap.get?_push_of_some _ q, fun _ => True.intro, fun y hy => absurd rfl hy⟩

theorem attr_of {prog : Program} {w : World} {env : Env} {e : Expr} {f : Str} {pos : Pos} {s : Shared} {Q : Value → Shared → Prop} (hb : attributeBase e f env (eval e env) = eval e env)
    (h : wpAny (model prog w) A (eval e env) (fun o s₁ => wpAny (model prog w) A (getAttr o f true) Q E s₁) E s) : wpAny (model prog w) A (eval (.Attribute e f pos) env) Q E s :=
  Attribute_any_ h (by rw [arm_eval_Attribute, hb])
end
/-! ### readings and rules -/
noncomputable def tFld (K : PySem.W.Frag) (ta : TE) (f : Str) : TE := fun σ H Q => ta σ H fun x H1 => ∃ a C dx fs v, x = .ref a ∧ H1 a = some (.ins C dx fs) ∧ Cls K C ∧ NoAttr K C f ∧ fs.lookup f = some v ∧ Q v H1
noncomputable def sFld (K : PySem.W.Frag) (ta tv : TE) (f : Str) : TS := fun D σ H => tv σ H fun y H1 => ta σ H1 fun x H2 => ∃ a C dx fs, x = .ref a ∧ H2 a = some (.ins C dx fs) ∧ Cls K C ∧ NoAttr K C f ∧ fs.length < 1000 ∧
  D.nx σ (upd H2 a (.ins C dx (putF f y fs)))
section
variable {X : Cx} {o e value : Expr} {f : Str} {pos pos' tpos : Pos} {ta tv : TE}
theorem pe_fld (he : PE X e ta) (hb : attributeBase e f X.env (eval e X.env) = eval e X.env) : PE X (.Attribute e f pos) (tFld X.K ta f) := by
  intro pins s σ H Q I h
  refine attr_of hb (thn (he pins s σ H _ I h) fun u s1 ⟨x, H1, I1, rx, a, C, dx, fs, v, ex, ea, c, n, l, q⟩ => ?_)
  subst ex
  obtain rfl : u = Value.ref a := rx
  exact getattr_ok I1 ea c n l fun u' s2 I2 ru => ⟨v, H1, I2, ru, q⟩
theorem ps_fld (ha : PE X o ta) (hv : PE X value tv) (hs : swapsWith value (some (.Attribute o f pos')) pos.line X.env = pure false) : PS X (.Assign [.Attribute o f pos'] value pos) (sFld X.K ta tv f) := by
  intro pins s σ H D I h
  refine plainObj_wpAny_Assign_Attribute (thn (hv pins s σ H _ I h) fun u s1 ⟨y, H1, I1, ry, q⟩ => thn (ha pins s1 σ H1 _ I1 q) fun ov s2 ⟨x, H2, I2, rx, a, C, dx, fs, ex, ea, c, n, l, q2⟩ => ?_) hs
  subst ex
  obtain rfl : ov = Value.ref a := rx
  exact setattr_ok I2 ea c n l ry fun s3 I3 => ⟨σ, _, I3, q2⟩
theorem methcall_of {pl : Sem Bool} {m : Str} {apos : Pos} {args : List Expr} {pins : List (Addr × Obj)} {s : Shared} {σ : St} {H : Hp} {Q : Value → Shared → Prop} {te : TE} (he : PE X e te) (I : Inv X pins σ H s)
    (h : te σ H fun x H1 => ∃ a C dx fs g, x = .ref a ∧ H1 a = some (.ins C dx fs) ∧ Cls X.K C ∧ Meth X.K C m g ∧ fs.lookup m = none ∧
      ∀ s1, Inv X pins σ H1 s1 → wpAny (model X.prog X.w) X.A (callWith pos (.ref g) [.ref a] (backTo pos (starEach args X.env)) (backToKw pos (keywordEach [] X.env))) Q X.xe s1)
    (ht : eval (.Call (.Attribute e m apos) args [] pos) X.env = (do
      let ov ← eval e X.env
      standAt apos.atName
      let (f, first) ← holding [ov] (getMethod ov m pl)
      callWith pos f first (backTo pos (starEach args X.env)) (backToKw pos (keywordEach [] X.env)))) :
    wpAny (model X.prog X.w) X.A (eval (.Call (.Attribute e m apos) args [] pos) X.env) Q X.xe s := by
  refine PySem.W.methodCall_KW (pl := pl) (thn (he pins s σ H _ I h) fun u s1 ⟨x, H1, I1, rx, a, C, dx, fs, g, ex, ea, c, k, l, q⟩ => ?_) ht
  subst ex
  obtain rfl : u = Value.ref a := rx
  exact getmeth_ok I1 ea c k l (q s1 I1)
end
/-! ### isinstance -/
section
variable {X : Cx} {pins : List (Addr × Obj)} {σ : St} {H : Hp} {s : Shared} {A : Around} {E : Value → Shared → Prop} {Q : Value → Shared → Prop} {c : Value} {b : Bool}
inductive TyOf (K : PySem.W.Frag) (H : Hp) : V → Value → Prop where
  | non : TyOf K H .non (.type "NoneType")
  | bl (x : Bool) : TyOf K H (.bl x) (.type "bool")
  | int (i : Int) : TyOf K H (.int i) (.type "int")
  | str (x : Str) : TyOf K H (.str x) (.type "str")
  | flt (x : UInt64) : TyOf K H (.flt x) (.type "float")
  | lst {a : Addr} {xs : List V} (e : H a = some (.lst xs)) : TyOf K H (.ref a) (.type "list")
  | frz {a : Addr} {o : Obj} {xs : List V} (e : H a = some (.frz o (.lst xs))) : TyOf K H (.ref a) (.type "list")
  | tup {a : Addr} {xs : List V} (e : H a = some (.tup xs)) : TyOf K H (.ref a) (.type "tuple")
  | dK {a : Addr} {kvs : List (Key × V)} (e : H a = some (.dK kvs)) : TyOf K H (.ref a) (.type "dict")
  | dT {a : Addr} {kvs : List (List Key × V)} (e : H a = some (.dT kvs)) : TyOf K H (.ref a) (.type "dict")
  | ins {a C dx : Addr} {fs : List (Str × V)} (e : H a = some (.ins C dx fs)) (cl : Cls K C) (ha : PySem.W.findIn K (.ref C) "__class__" = some (some (.builtin "object.__class__")))
      (hn : PySem.W.specialIn K (.builtin "object.__class__") "__get__" = some (some (.builtin "getset_descriptor.__get__"))) (htk : PySem.W.takesIn K (.builtin "object.__class__") = some true)
      (hm : PySem.W.mroIn K C (.type "object") = some true) : TyOf K H (.ref a) (.ref C)
theorem isinst_ok {x : V} {u t : Value} (I : Inv X pins σ H s) (rx : RelV x u) (ty : TyOf X.K H x t) (e : PySem.W.kitOne X.K t c = some b) (h : ∀ tk, Q (.bool b) { s with toks := tk }) :
    wpAny (model X.prog X.w) A (call (.builtin "isinstance") [u, c]) Q E s := by
  cases ty with
  | non => cases (show u = Value.none from rx); exact PySem.W.kia_one PySem.W.kitx_none I.kIn True.intro e (fun z => nomatch z) h
  | bl y => cases (show u = Value.bool y from rx); exact PySem.W.kia_one PySem.W.kitx_bool I.kIn True.intro e (fun z => nomatch z) h
  | int i => obtain ⟨t, q⟩ := (show ∃ t, u = Value.int i t from rx); cases q; exact PySem.W.kia_one PySem.W.kitx_int I.kIn True.intro e (fun z => nomatch z) h
  | str y => obtain ⟨t, q⟩ := (show ∃ t, u = Value.str y t from rx); cases q; exact PySem.W.kia_one PySem.W.kitx_str I.kIn True.intro e (fun z => nomatch z) h
  | flt y => obtain ⟨t, q⟩ := (show ∃ t, u = Value.float y t from rx); cases q; exact PySem.W.kia_one PySem.W.kitx_float I.kIn True.intro e (fun z => nomatch z) h
  | @lst a xs ea =>
    cases (show u = Value.ref a from rx)
    obtain ⟨_, _, n, _, h1⟩ := (show ObjOk X.prog X.w H s.heap a (.lst xs) from I.hok a _ ea)
    exact PySem.W.kia_one PySem.W.kitx_list I.kIn ⟨_, h1, rfl⟩ e (fun z => nomatch z) h
  | @frz a ob xs ea =>
    cases (show u = Value.ref a from rx)
    obtain ⟨_, _, _, n, _, h1⟩ := (show ObjOk X.prog X.w H s.heap a (.frz ob (.lst xs)) from I.hok a _ ea)
    exact PySem.W.kia_one PySem.W.kitx_list I.kIn ⟨_, h1, rfl⟩ e (fun z => nomatch z) h
  | @tup a xs ea =>
    cases (show u = Value.ref a from rx)
    obtain ⟨_, _, _, p⟩ := (show ObjOk X.prog X.w H s.heap a (.tup xs) from I.hok a _ ea)
    obtain ⟨o, h1, h2, _⟩ := p
    exact PySem.W.kia_one PySem.W.kitx_tuple I.kIn ⟨o, h1, h2⟩ e (fun z => nomatch z) h
  | @dK a kvs ea =>
    cases (show u = Value.ref a from rx)
    obtain ⟨_, _, vs, _, p⟩ := (show ObjOk X.prog X.w H s.heap a (.dK kvs) from I.hok a _ ea)
    obtain ⟨o, es, ep, h1, h2, _⟩ := p
    exact PySem.W.kia_one PySem.W.kitx_dict I.kIn ⟨o, h1, h2.1⟩ e (fun z => nomatch z) h
  | @dT a kvs ea =>
    cases (show u = Value.ref a from rx)
    obtain ⟨_, _, xs, _, o, es, ep, h1, h2, _⟩ := (show ObjOk X.prog X.w H s.heap a (.dT kvs) from I.hok a _ ea)
    exact PySem.W.kia_one PySem.W.kitx_dict I.kIn ⟨o, h1, h2.1⟩ e (fun z => nomatch z) h
  | @ins a C dx fs ea cl ha hn htk hm =>
    cases (show u = Value.ref a from rx)
    obtain ⟨mA, O, _⟩ := ins_get I.hok ea
    obtain ⟨od, J, _⟩ := O.look
    exact PySem.W.kia_one (PySem.W.kitx_own (cl.get _) cl.hd ha hn htk hm) I.kIn J e (fun z => nomatch z) h
end
end L2
namespace L2
open PySem PySem.Spec PyProof.Rows
/-! ### room -/
structure Room (k : Nat) (A : Around) : Prop where
  hd : A.handled = none
  dp : A.depth + 3 * k + 5 < recursionLimit
  un : A.units + 16 * k + 200 < cLine
theorem Room.mono {j k : Nat} {A : Around} (r : Room k A) (h : j ≤ k) : Room j A := ⟨r.hd, by have := r.dp; omega, by have := r.un; omega⟩
theorem Room.deeper {k : Nat} {A : Around} (r : Room (k + 1) A) (env : Env) : Room k (A.deeper env) :=
  ⟨r.hd, by have := r.dp; show A.depth + 1 + 3 * k + 5 < _; omega, by have := r.un; show A.units + 3 + 16 * k + 200 < _; omega⟩
theorem Room.in1 {k : Nat} {A : Around} (r : Room (k + 1) A) : Room k A.in1 :=
  ⟨r.hd, by have := r.dp; show A.depth + 3 * k + 5 < _; omega, by have := r.un; show A.units + 1 + 16 * k + 200 < _; omega⟩
theorem make_depth {A : Around} {C : Addr} {us : List Value} {kw : List (Str × Value)} : (A.under (.builtin "type.__call__" ⟨.ref C :: us, kw⟩)).depth = A.depth + 1 := by
  first | rfl | simp [Around.under, Code.weight, Code.isCreation, Code.isGuard, Code.isCaller, Code.frames, Code.isFrame, guardIds]
theorem make_units {A : Around} {C : Addr} {us : List Value} {kw : List (Str × Value)} : (A.under (.builtin "type.__call__" ⟨.ref C :: us, kw⟩)).units = A.units + 1 := by
  first | rfl | simp [Around.under, Code.cUnits, Code.frames, Code.isFrame]
theorem Room.make {k : Nat} {A : Around} (r : Room (k + 1) A) (C : Addr) (us : List Value) (kw : List (Str × Value)) : Room k (A.under (.builtin "type.__call__" ⟨.ref C :: us, kw⟩)) :=
  ⟨r.hd, by have := r.dp; rw [make_depth]; omega, by have := r.un; rw [make_units]; omega⟩
theorem Room.depth {k : Nat} {A : Around} (r : Room k A) : A.depth < recursionLimit := by have := r.dp; omega
theorem Room.units {k : Nat} {A : Around} (r : Room k A) : A.units + 64 < cLine := by have := r.un; omega
/-! ### argument lists and displays -/
noncomputable def tNil : TA := fun _ H Q => Q [] H
noncomputable def tCons (ta : TE) (tr : TA) : TA := fun σ H Q => ta σ H fun x H1 => tr σ H1 fun xs H2 => Q (x :: xs) H2
section
variable {X : Cx} {e : Expr} {es : List Expr} {te : TE} {t : TA} {pos : Pos}
theorem pa_nil : PA X [] tNil := fun _ _ _ _ H Q I h => Calls.spliced_nil ⟨[], H, I, .nil, h⟩
theorem pa_cons (ha : PE X e te) (hr : PA X es t) (hs : starEach (e :: es) X.env = (false, eval e X.env) :: starEach es X.env := by rfl) : PA X (e :: es) (tCons te t) := by
  intro pos pins s σ H Q I h
  rw [hs]
  show wpAny _ _ (spliced ((false, eval e X.env) :: backTo pos (starEach es X.env))) _ _ s
  refine Calls.spliced_cons (thn (ha pins s σ H _ I h) fun u s1 ⟨x, H1, I1, r1, q1⟩ => ?_)
  exact thn (hr pos pins s1 σ H1 _ I1 q1) fun us s2 ⟨xs, H2, I2, r2, q2⟩ => ⟨x :: xs, H2, I2, .cons r1 r2, q2⟩

noncomputable def tTup (t : TA) : TE := fun σ H Q => t σ H fun xs H1 => xs.length ≤ sizeLine ∧ ∀ p, H1 p = none → Q (.ref p) (upd H1 p (.tup xs))
noncomputable def tLst (t : TA) : TE := fun σ H Q => t σ H fun xs H1 => xs.length ≤ sizeLine ∧ ∀ p, H1 p = none → Q (.ref p) (upd H1 p (.lst xs))
theorem pe_tup {x1} (h : PA X es t) : PE X (.Tuple es x1 pos) (tTup t) := by
  intro pins s σ H Q I hq
  refine wpAny_Tuple_spliced (thn (h pos pins s σ H _ I hq) fun us s1 ⟨xs, H1, I1, r, z, q⟩ => ⟨by rw [← r.length]; exact z, ?_⟩)
  have hf : H1 s1.heap.objs.size = none := I1.hok.fresh (Nat.le_refl _)
  refine ⟨.ref s1.heap.objs.size, upd H1 s1.heap.objs.size (.tup xs), I1.laid (t' := s1.toks) (fun b u e => Heap.get?_push_of_some _ e) (Nat.le_refl _) ?_, rfl, q _ hf⟩
  exact ⟨z, us, r, ⟨_, Heap.get?_push_size _ rfl, rfl, _, rfl⟩⟩
theorem pe_lst (h : PA X es t) : PE X (.List es pos) (tLst t) := by
  intro pins s σ H Q I hq
  refine wpAny_List_spliced (thn (h pos pins s σ H _ I hq) fun us s1 ⟨xs, H1, I1, r, z, q⟩ => ⟨by rw [← r.length]; exact z, ?_⟩)
  have hf : H1 s1.heap.objs.size = none := I1.hok.fresh (Nat.le_refl _)
  refine ⟨.ref s1.heap.objs.size, upd H1 s1.heap.objs.size (.lst xs), I1.laid (t' := s1.toks) (fun b u e => Heap.get?_push_of_some _ e) (Nat.le_refl _) ?_, rfl, q _ hf⟩
  exact ⟨z, us, 0, r, Heap.get?_push_size _ rfl⟩
end
/-! ### what a def promises -/
noncomputable abbrev Sp := List V → Hp → VK → XK → Prop
noncomputable abbrev CXT := List Env → Hp → Shared → XK → Value → Shared → Prop

structure Env0 (P : Program) (w : World) (K : PySem.W.Frag) (mg : Str → Option Value) (base : Heap) (A : Around) (outer : List Env) (s : Shared) (H : Hp) : Prop where
  frames : A.frames = some outer
  mod : Mod K mg base
  bs : ∀ b o, base.get? b = some o → s.heap.get? b = some o ∧ H b = none
  bsz : base.objs.size ≤ s.heap.objs.size
  funs : s.heap.FunFrames base outer
  frf : ∀ b ∈ frs outer, H b = none
  hok : HOk P w H s.heap
  bare : AllBare s.gens
noncomputable def CE (outer : List Env) (P : Program) (w : World) (H : Hp) (s : Shared) (Q : VK) (u : Value) (s' : Shared) : Prop :=
  ∃ v H', s'.os = s.os ∧ AllBare s'.gens ∧ Un (frs outer) [] H H' s.heap s'.heap ∧ HOk P w H' s'.heap ∧ RelV v u ∧ Q v H'
noncomputable def CR (CX : CXT) (outer : List Env) (P : Program) (w : World) (H : Hp) (s : Shared) (Q : VK) (E : XK) (r : Result) (s' : Shared) : Prop :=
  match r with
  | .ok (.ret u) => CE outer P w H s Q u s'
  | .ok _ => False
  | .error e => CX outer H s E e s'
structure FnOk (P : Program) (w : World) (K : PySem.W.Frag) (mg : Str → Option Value) (base : Heap) (CX : CXT) (k : Nat) (f : Addr) (fd : FuncData) (ps : List Str) (sp : Sp) : Prop where
  len : ∀ vs H Q E, sp vs H Q E → vs.length = ps.length
  run : ∀ (A : Around) (outer : List Env) (s : Shared) (H : Hp) (args : Args) (us : List Value) (vs : List V) (Q : VK) (E : XK), Room k A → Env0 P w K mg base A outer s H → BindsTo s fd args (ps.zip us) → Vals vs us → sp vs H Q E →
    codeAny (model P w) A (.call (.ref f) args) (CR CX outer P w H s Q E) s
theorem FnOk.imp {P : Program} {w : World} {K : PySem.W.Frag} {mg : Str → Option Value} {base : Heap} {CX : CXT} {k : Nat} {f : Addr} {fd : FuncData} {ps : List Str} {sp sp' : Sp} (F : FnOk P w K mg base CX k f fd ps sp)
    (h : ∀ vs H Q E, sp' vs H Q E → sp vs H Q E) : FnOk P w K mg base CX k f fd ps sp' :=
  ⟨fun vs H Q E q => F.len vs H Q E (h _ _ _ _ q), fun A outer s H args us vs Q E hr he hb hv hs => F.run A outer s H args us vs Q E hr he hb hv (h _ _ _ _ hs)⟩

theorem Env0.make {P : Program} {w : World} {K : PySem.W.Frag} {mg : Str → Option Value} {base : Heap} {A : Around} {outer : List Env} {s : Shared} {H : Hp} (e : Env0 P w K mg base A outer s H) (C : Addr) (us : List Value) (kw : List (Str × Value)) :
    Env0 P w K mg base (A.under (.builtin "type.__call__" ⟨.ref C :: us, kw⟩)) outer s H := ⟨by first | exact e.frames | (simpa [Around.under, Code.envs, Code.isFrame, pushEnvs] using e.frames), e.mod, e.bs, e.bsz, e.funs, e.frf, e.hok, e.bare⟩
section
variable {X : Cx} {pins : List (Addr × Obj)} {σ : St} {H : Hp} {s s' : Shared}
theorem Inv.env0 (I : Inv X pins σ H s) : Env0 X.prog X.w X.K X.mg X.base X.A X.stack s H :=
  ⟨I.ok.frames, I.ok.mod, I.bs, Nat.le_trans I.ok.bsz I.sz, I.stack, I.stkFree, I.hok, I.bare⟩
theorem Inv.after {Q : VK} {u : Value} (I : Inv X pins σ H s) (h : CE X.stack X.prog X.w H s Q u s') : EP X pins σ Q u s' := by
  obtain ⟨v, H', os, bare, un, hok, r, q⟩ := h
  obtain ⟨hh, g, d, t, os'⟩ := s'
  obtain rfl : os' = s.os := os
  exact ⟨v, H', I.call (h' := hh) (g' := g) (d' := d) (t' := t) (ch := []) un hok bare (fun b z => absurd z (by simp)), r, q⟩
end
/-! ### calls -/
noncomputable def tCall (sp : Sp) (dvs : List V) (E : St → XK) (t : TA) : TE := fun σ H Q => t σ H fun vs H1 => sp (vs ++ dvs) H1 Q (E σ)
noncomputable def tMeth (C : Addr) (m : Str) (sp : Sp) (dvs : List V) (E : St → XK) (ta : TE) (t : TA) : TE := fun σ H Q => ta σ H fun x H1 => ∃ a dx fs, x = .ref a ∧ H1 a = some (.ins C dx fs) ∧ fs.lookup m = none ∧
  t σ H1 fun vs H2 => sp (x :: (vs ++ dvs)) H2 Q (E σ)
noncomputable def tMake (C : Addr) (sp : Sp) (dvs : List V) (E : St → XK) (t : TA) : TE := fun σ H Q => t σ H fun vs H1 => ∀ x dx, H1 x = none → H1 dx = none → dx ≠ x →
  sp (.ref x :: (vs ++ dvs)) (upd (upd H1 dx (.own x)) x (.ins C dx [])) (fun v H2 => v = .non ∧ Q (.ref x) H2) (E σ)

noncomputable def Binds (K : PySem.W.Frag) (fd : FuncData) (ps : List Str) (ds : List Value) : Prop :=
  ∀ (s : Shared) (us : List Value), K.In s.heap → (us ++ ds).length = ps.length → BindsTo s fd ⟨us, []⟩ (ps.zip (us ++ ds))
theorem Binds.all {K : PySem.W.Frag} {fd : FuncData} {ps : List Str} (h : ∀ us : List Value, us.length = ps.length → bindArgs fd ⟨us, []⟩ = pure (ps.zip us)) : Binds K fd ps [] := fun s us _ hl => by
  rw [List.append_nil] at hl ⊢
  exact .of_eq (h us hl)

noncomputable def Passes (CX : CXT) (X : Cx) (E : St → XK) : Prop := ∀ (pins : List (Addr × Obj)) (σ : St) (H : Hp) (s : Shared) (e : Value) (s' : Shared), Inv X pins σ H s → CX X.stack H s (E σ) e s' → X.xe e s'

section
variable {X : Cx} {CX : CXT} {k : Nat} {f C : Addr} {fd : FuncData} {ps : List Str} {sp : Sp} {dvs : List V} {ds : List Value} {E : St → XK} {x m : Str} {p pos apos : Pos} {e o : Expr} {es : List Expr} {ta : TE} {t : TA}
theorem run_fn {pins : List (Addr × Obj)} {σ : St} {H : Hp} {s : Shared} {Q : VK} {us : List Value} {vs : List V} (F : FnOk X.prog X.w X.K X.mg X.base CX k f fd ps sp) (hr : Room k X.A) (hb : Binds X.K fd ps ds) (hd : Vals dvs ds) (hx : Passes CX X E)
    (I : Inv X pins σ H s) (r : Vals vs us) (h : sp (vs ++ dvs) H Q (E σ)) : wpAny (model X.prog X.w) X.A (call (.ref f) us) (EP X pins σ Q) X.xe s := by
  have r2 : Vals (vs ++ dvs) (us ++ ds) := r.append hd
  have hl : (us ++ ds).length = ps.length := by rw [← r2.length]; exact F.len _ _ _ _ h
  refine wpAny_call (codeAny_mono (F.run X.A X.stack s H ⟨us, []⟩ (us ++ ds) (vs ++ dvs) Q (E σ) hr I.env0 (hb s us I.kIn hl) r2 h) fun r s' hq => ?_)
  cases r with
  | error e => exact hx pins σ H s e s' I hq
  | ok fl =>
    cases fl with
    | ret u => exact I.after hq
    | next => exact False.elim hq
    | brk => exact False.elim hq
    | cont => exact False.elim hq

theorem pe_call (F : FnOk X.prog X.w X.K X.mg X.base CX k f fd ps sp) (hr : Room k X.A) (hg : Gl X x) (hm : X.mg x = some (.ref f)) (hk : PySem.W.keepIn X.K (.ref f) = true) (hb : Binds X.K fd ps ds) (hd : Vals dvs ds) (hx : Passes CX X E)
    (ha : PA X (e :: es) t) (hdb : (x == ("__debug__" : Str)) = false := by decide) (he : starEach (e :: es) X.env = (false, eval e X.env) :: starEach es X.env := by rfl) (hpl : (backTo pos (starEach es X.env)).any (·.1) = false := by rfl) :
    PE X (.Call (.Name x p) (e :: es) [] pos) (tCall sp dvs E t) := by
  intro pins s σ H Q I h
  refine wpAny_Call_Name_kw (ld_glob I hg hm ?_ hdb)
  refine PySem.W.callWith_K (h₀ := X.base) I.ok.mod.kin hk (thn (ha pos pins s σ H _ I h) fun us s1 ⟨vs, H1, I1, r, q⟩ => ⟨I1.kIn, ?_⟩) he hpl
  exact run_fn F hr hb hd hx I1 r q
theorem pe_meth {pl : Sem Bool} (he : PE X o ta) (c : Cls X.K C) (hm : Meth X.K C m f) (F : FnOk X.prog X.w X.K X.mg X.base CX k f fd ps sp) (hr : Room k X.A) (hb : Binds X.K fd ps ds) (hd : Vals dvs ds) (hx : Passes CX X E) (ha : PA X (e :: es) t)
    (hst : starEach (e :: es) X.env = (false, eval e X.env) :: starEach es X.env := by rfl) (hpl : (backTo pos (starEach es X.env)).any (·.1) = false := by rfl)
    (ht : eval (.Call (.Attribute o m apos) (e :: es) [] pos) X.env = (do
      let ov ← eval o X.env
      standAt apos.atName
      let (f, first) ← holding [ov] (getMethod ov m pl)
      callWith pos f first (backTo pos (starEach (e :: es) X.env)) (backToKw pos (keywordEach [] X.env))) := by rfl) :
    PE X (.Call (.Attribute o m apos) (e :: es) [] pos) (tMeth C m sp dvs E ta t) := by
  intro pins s σ H Q I h
  refine PySem.W.methodCall_KW (pl := pl) (thn (he pins s σ H _ I h) fun u s1 ⟨x, H1, I1, rx, a, dx, fs, ex, ea, l, q⟩ => ?_) ht
  subst ex
  obtain rfl : u = Value.ref a := rx
  refine getmeth_ok I1 ea c hm l ?_
  refine PySem.W.callWith_K (first := [.ref a]) (h₀ := X.base) I.ok.mod.kin hm.kp (thn (ha pos pins s1 σ H1 _ I1 q) fun us s2 ⟨vs, H2, I2, r, q2⟩ => ⟨I2.kIn, ?_⟩) hst hpl
  exact run_fn (us := .ref a :: us) (vs := .ref a :: vs) F hr hb hd hx I2 (.cons rfl r) q2
theorem pe_meth0 {pl : Sem Bool} (he : PE X o ta) (c : Cls X.K C) (hm : Meth X.K C m f) (F : FnOk X.prog X.w X.K X.mg X.base CX k f fd ps sp) (hr : Room k X.A) (hb : Binds X.K fd ps ds) (hd : Vals dvs ds) (hx : Passes CX X E)
    (ht : eval (.Call (.Attribute o m apos) [] [] pos) X.env = (do
      let ov ← eval o X.env
      standAt apos.atName
      let (f, first) ← holding [ov] (getMethod ov m pl)
      callWith pos f first (backTo pos (starEach [] X.env)) (backToKw pos (keywordEach [] X.env))) := by rfl) :
    PE X (.Call (.Attribute o m apos) [] [] pos) (tMeth C m sp dvs E ta tNil) := by
  intro pins s σ H Q I h
  refine PySem.W.methodCall_KW (pl := pl) (thn (he pins s σ H _ I h) fun u s1 ⟨x, H1, I1, rx, a, dx, fs, ex, ea, l, q⟩ => ?_) ht
  subst ex
  obtain rfl : u = Value.ref a := rx
  refine getmeth_ok I1 ea c hm l ?_
  exact PySem.W.callWith_K0 (first := [.ref a]) I1.kIn hm.kp (run_fn (us := [.ref a]) (vs := [.ref a]) F hr hb hd hx I1 (.cons rfl .nil) q)

structure Mk (K : PySem.W.Frag) (C f : Addr) : Prop where
  makes : PySem.W.makesIn K C = true
  init : PySem.W.findIn K (.ref C) "__init__" = some (some (.ref f))
  fn : PySem.W.isFn K (.ref f) = true
  kp : PySem.W.keepIn K (.ref C) = true

theorem run_make {pins : List (Addr × Obj)} {σ : St} {H : Hp} {s : Shared} {Q : VK} {us : List Value} {vs : List V} (M : Mk X.K C f) (F : FnOk X.prog X.w X.K X.mg X.base CX k f fd ps sp) (hr : Room (k + 1) X.A) (hb : Binds X.K fd ps ds) (hd : Vals dvs ds)
    (hx : Passes CX X E) (I : Inv X pins σ H s) (r : Vals vs us)
    (h : ∀ x dx, H x = none → H dx = none → dx ≠ x → sp (.ref x :: (vs ++ dvs)) (upd (upd H dx (.own x)) x (.ins C dx [])) (fun v H2 => v = .non ∧ Q (.ref x) H2) (E σ)) :
    wpAny (model X.prog X.w) X.A (call (.ref C) us) (EP X pins σ Q) X.xe s := by
  have hq := h (s.heap.objs.size + 1) s.heap.objs.size (I.hok.fresh (Nat.le_succ _)) (I.hok.fresh (Nat.le_refl _)) (Nat.ne_of_lt (Nat.lt_succ_self _))
  have I2 := Inv.made (C := C) I
  have r2 : Vals (V.ref (s.heap.objs.size + 1) :: (vs ++ dvs)) (Value.ref (s.heap.objs.size + 1) :: (us ++ ds)) := .cons rfl (r.append hd)
  have hl : (Value.ref (s.heap.objs.size + 1) :: us ++ ds).length = ps.length := by
    have e := r2.length
    rw [F.len _ _ _ _ hq] at e
    exact e.symm
  refine wpAny_call (make_map (f := f) I.kIn M.makes M.init (beq_iff_eq.mp M.fn) (codeAny_mono (F.run _ X.stack _ _ ⟨Value.ref (s.heap.objs.size + 1) :: us, []⟩ (Value.ref (s.heap.objs.size + 1) :: (us ++ ds)) _ _ (E σ) (hr.make C us [])
    (I2.env0.make C us []) (hb _ (Value.ref (s.heap.objs.size + 1) :: us) I2.kIn hl) r2 hq) fun r s' hq' => ?_))
  cases r with
  | error e => exact hx pins σ _ _ e s' I2 hq'
  | ok fl =>
    cases fl with
    | ret u =>
      obtain ⟨v, H', I3, rv, ev, q3⟩ := I2.after hq'
      subst ev
      exact ⟨rv, ⟨V.ref (s.heap.objs.size + 1), H', I3, rfl, q3⟩⟩
    | next => exact False.elim hq'
    | brk => exact False.elim hq'
    | cont => exact False.elim hq'
theorem pe_make (M : Mk X.K C f) (F : FnOk X.prog X.w X.K X.mg X.base CX k f fd ps sp) (hr : Room (k + 1) X.A) (hg : Gl X x) (hm : X.mg x = some (.ref C)) (hb : Binds X.K fd ps ds) (hd : Vals dvs ds) (hx : Passes CX X E)
    (ha : PA X (e :: es) t) (hdb : (x == ("__debug__" : Str)) = false := by decide) (he : starEach (e :: es) X.env = (false, eval e X.env) :: starEach es X.env := by rfl) (hpl : (backTo pos (starEach es X.env)).any (·.1) = false := by rfl) :
    PE X (.Call (.Name x p) (e :: es) [] pos) (tMake C sp dvs E t) := by
  intro pins s σ H Q I h
  refine wpAny_Call_Name_kw (ld_glob I hg hm ?_ hdb)
  refine PySem.W.callWith_K (h₀ := X.base) I.ok.mod.kin M.kp (thn (ha pos pins s σ H _ I h) fun us s1 ⟨vs, H1, I1, r, q⟩ => ⟨I1.kIn, ?_⟩) he hpl
  exact run_make M F hr hb hd hx I1 r q
end
/-! ### keywords -/
section
variable {X : Cx} {CX : CXT} {k : Nat} {f C : Addr} {fd : FuncData} {ps ks : List Str} {sp : Sp} {E : St → XK} {x m : Str} {p pos apos kpos : Pos} {e o : Expr} {es : List Expr} {kws : List Keyword} {te ta : TE} {t tk : TA} {nm : Option Str}
variable {g : List Value → List Value → List Value} {gV : List V → List V → List V}
end
/-! ### a def's body keeps its promise -/
structure FnScope (N P : List Str) (sc : Scope) : Prop where
  kind : sc.kind = .function
  co : sc.isCoroutine = false
  gen : sc.isGenerator = false
  nd : N.Nodup
  pre : N.take P.length = P
  par : ∀ x ∈ P, sc.names.lookup x = some .local ∨ sc.names.lookup x = some .cell
  nofree : ∀ y ∈ sc.names, y.2 ≠ .free

theorem bindL_out {kindOf : Str → Option NameKind} {x : Str} : ∀ {binds : List (Str × Value)} {m : Str → Option Value}, (∀ v, (x, v) ∉ binds) → bindL kindOf binds m x = m x
  | [], _, _ => rfl
  | (n, v) :: r, m, h => by
    unfold bindL
    rw [bindL_out fun w hw => h w (List.mem_cons_of_mem _ hw)]
    split
    · have : x ≠ n := by rintro rfl; exact h v List.mem_cons_self
      simp [this]
    · rfl
theorem bindC_out {kindOf : Str → Option NameKind} {x : Str} : ∀ {binds : List (Str × Value)} {m : Str → Option Value}, (∀ v, (x, v) ∉ binds) → bindC kindOf binds m x = m x
  | [], _, _ => rfl
  | (n, v) :: r, m, h => by
    unfold bindC
    rw [bindC_out fun w hw => h w (List.mem_cons_of_mem _ hw)]
    split
    · rfl
    · have : x ≠ n := by rintro rfl; exact h v List.mem_cons_self
      simp [this]
theorem bindL_get {kindOf : Str → Option NameKind} {x : Str} {v : Value} : ∀ {P : List Str} {vs : List Value} {i : Nat} {m : Str → Option Value}, P.Nodup → P[i]? = some x → vs[i]? = some v → kindOf x = some .local →
    bindL kindOf (P.zip vs) m x = some v
  | [], _, _, _, _, h, _, _ => by simp at h
  | _ :: _, [], _, _, _, _, h, _ => by simp at h
  | p :: P, w :: vs, 0, m, nd, h1, h2, hk => by
    simp at h1 h2; subst h1; subst h2
    show bindL kindOf ((p, w) :: P.zip vs) m p = _
    unfold bindL
    rw [bindL_out fun v hv => (List.nodup_cons.mp nd).1 (List.of_mem_zip hv).1, if_pos hk]
    simp
  | p :: P, w :: vs, i + 1, m, nd, h1, h2, hk => by
    show bindL kindOf ((p, w) :: P.zip vs) m x = _
    unfold bindL
    exact bindL_get (i := i) (List.nodup_cons.mp nd).2 (by simpa using h1) (by simpa using h2) hk
theorem bindC_get {kindOf : Str → Option NameKind} {x : Str} {v : Value} : ∀ {P : List Str} {vs : List Value} {i : Nat} {m : Str → Option Value}, P.Nodup → P[i]? = some x → vs[i]? = some v → kindOf x ≠ some .local →
    bindC kindOf (P.zip vs) m x = some v
  | [], _, _, _, _, h, _, _ => by simp at h
  | _ :: _, [], _, _, _, _, h, _ => by simp at h
  | p :: P, w :: vs, 0, m, nd, h1, h2, hk => by
    simp at h1 h2; subst h1; subst h2
    show bindC kindOf ((p, w) :: P.zip vs) m p = _
    unfold bindC
    rw [bindC_out fun v hv => (List.nodup_cons.mp nd).1 (List.of_mem_zip hv).1, if_neg hk]
    simp
  | p :: P, w :: vs, i + 1, m, nd, h1, h2, hk => by
    show bindC kindOf ((p, w) :: P.zip vs) m x = _
    unfold bindC
    exact bindC_get (i := i) (List.nodup_cons.mp nd).2 (by simpa using h1) (by simpa using h2) hk

noncomputable def start (N : List Str) (vs : List V) : St := vs.map some ++ List.replicate (N.length - vs.length) none

noncomputable def cxOf (CX : CXT) (P : Program) (w : World) (K : PySem.W.Frag) (mg : Str → Option Value) (base : Heap) (N : List Str) (qual : Str) (scope : Scope) (f : Addr) (cd : Value) (A : Around) (outer : List Env) (s : Shared) (H : Hp) (E : XK) : Cx where
  prog := P
  w := w
  K := K
  mg := mg
  base := base
  A := A.deeper (envOfC qual scope s.heap.objs.size f cd)
  N := N
  s₀ := s
  H₀ := H
  env := envOfC qual scope s.heap.objs.size f cd
  outer := outer
  stack := envOfC qual scope s.heap.objs.size f cd :: outer
  ex := []
  calm := true
  fn := fun _ => true
  pn := []
  xe := fun e s' => wpAny (model P w) (A.deeper (envOfC qual scope s.heap.objs.size f cd)) (leaving (envOfC qual scope s.heap.objs.size f cd) e) (fun _ s'' => CX outer H s E e s'') (fun e' s'' => CX outer H s E e' s'') s'

theorem cell_has {sc : Scope} {n : Nat} {x : Str} (h : sc.names.lookup x = some .cell) : ∃ c, (cellsFrom n sc.names []).lookup x = some c := by
  have q := PySem.W.cellsFrom_some sc.names n [] (.inl h)
  exact Option.isSome_iff_exists.mp q

theorem inv_start {CX : CXT} {P : Program} {w : World} {K : PySem.W.Frag} {mg : Str → Option Value} {base : Heap} {N ps : List Str} {qual : Str} {scope : Scope} {f : Addr} {cd : Value} {A : Around} {outer : List Env} {s s1 : Shared} {H : Hp} {E : XK} {us : List Value} {vs : List V}
    (S : FnScope N ps scope) (hd : A.handled = none) (e0 : Env0 P w K mg base A outer s H) (hl : vs.length = ps.length) (r : Vals vs us)
    (x : InCallC s s.heap.objs.size (bindL (envOfC qual scope s.heap.objs.size f cd).kindOf (ps.zip us) fun _ => none) (cellsFrom (s.heap.objs.size + 1) scope.names []) (bindC (envOfC qual scope s.heap.objs.size f cd).kindOf (ps.zip us) fun _ => none) s1) :
    Inv (cxOf CX P w K mg base N qual scope f cd A outer s H E) [] (start N vs) H s1 := by
  have hpl : ps.length ≤ N.length := by have := congrArg List.length S.pre; rw [List.length_take] at this; omega
  obtain ⟨h1, tk, rfl, hk⟩ := x.done
  have noA : ∀ b : Addr, b ∉ (cxOf CX P w K mg base N qual scope f cd A outer s H E).ex := fun b z => absurd (show b ∈ ([] : List Addr) from z) (by simp)
  refine ⟨⟨e0.mod, S.kind, rfl, rfl, Nat.le_refl _, fun y z c h1 h2 => ?_, fun y hy => ?_, fun y c _ h => ?_, fun _ => hd, Around.frames_deeper e0.frames, .inr ⟨rfl, rfl⟩, fun b z => absurd z (noA b), e0.bs, e0.bsz, fun b _ _ => noA b, fun b z => absurd z (noA b), e0.funs, e0.frf⟩,
    rfl, e0.bare, Un.kept hk, ⟨_, x.toInCall.ns, fun i y v h1 h2 h3 => ?_⟩, fun y c h => ⟨_, x.cell y c h⟩, e0.hok.fresh (Nat.le_refl _), fun y c h => ?_, fun p hp => absurd (show p ∈ ([] : List (Addr × Obj)) from hp) (by simp), e0.hok.kept hk, ?_⟩
  · exact name_of_addr x.apart (PySem.mem_of_lookup h1) (PySem.mem_of_lookup h2)
  · have hy : scope.names.lookup y = some .cell ∨ scope.names.lookup y = some .free := hy
    rcases hy with hy | hy
    · exact cell_has hy
    · exact absurd rfl (S.nofree _ (PySem.mem_of_lookup hy))
  · exact Nat.le_of_lt (x.above y c (PySem.mem_of_lookup h))
  · have hi : i < vs.length := by
      unfold start at h2
      by_cases hi : i < vs.length
      · exact hi
      · rw [List.getElem?_append_right (by simpa using hi)] at h2
        rw [List.getElem?_replicate] at h2
        split at h2 <;> cases h2
    have ha : vs[i]? = some v := by
      unfold start at h2
      rw [List.getElem?_append_left (by simpa using hi), List.getElem?_map] at h2
      cases e : vs[i]? with
      | none => rw [e] at h2; cases h2
      | some a => rw [e] at h2; cases h2; rfl
    obtain ⟨u, hu, rv⟩ := r.get ha
    have hp : ps[i]? = some y := by
      rw [← S.pre, List.getElem?_take_of_lt (by omega)]; exact h1
    have ndP : ps.Nodup := by rw [← S.pre]; exact S.nd.sublist (List.take_sublist _ _)
    refine ⟨u, rv, ?_⟩
    rcases S.par y (List.mem_of_getElem? hp) with k | k
    · exact .inl ⟨k, bindL_get ndP hp hu k⟩
    · obtain ⟨c, e⟩ := cell_has (n := s.heap.objs.size + 1) k
      refine .inr ⟨.inl k, c, e, ?_⟩
      have q := x.cell y c e
      rw [bindC_get ndP hp hu (by show scope.names.lookup y ≠ _; rw [k]; decide)] at q
      exact q
  · exact e0.hok.fresh (Nat.le_of_lt (x.above y c (PySem.mem_of_lookup h)))
  · unfold start
    show _ = N.length
    rw [List.length_append, List.length_map, List.length_replicate]
    omega

theorem fn_of {CX : CXT} {P : Program} {w : World} {K : PySem.W.Frag} {mg : Str → Option Value} {base : Heap} {k : Nat} {f : Addr} {name qual : Str} {params : Arguments} {body : List Stmt} {scope : Scope} {dV kV doc pm cdv ct oc : Value} {an od : Option Addr}
    {osl : Array (Option Value)} {N ps : List Str} {sp : Sp} (lk : K.lookup f = some ⟨oc, od, .func (PySem.W.fnOf name qual params body scope dV kV doc pm an cdv ct), osl⟩) (hcd : PySem.W.codeIn K cdv qual = true) (S : FnScope N ps scope)
    (len : ∀ vs H Q E, sp vs H Q E → vs.length = ps.length)
    (hbody : ∀ (A : Around) (outer : List Env) (s : Shared) (H : Hp) (vs : List V) (Q : VK) (E : XK), Room k (A.deeper (envOfC qual scope s.heap.objs.size f cdv)) → sp vs H Q E →
      ∃ t, PSs (cxOf CX P w K mg base N qual scope f cdv A outer s H E) body t ∧ t { nx := fun _ H' => Q .non H', rt := Q } (start N vs) H) :
    FnOk P w K mg base CX (k + 1) f (PySem.W.fnOf name qual params body scope dV kV doc pm an cdv ct) ps sp := by
  refine ⟨len, fun A outer s H args us vs Q E hr e0 hb r hsp => ?_⟩
  have hl := len _ _ _ _ hsp
  have KX : K.In s.heap := e0.mod.kin.keeps fun b o e => (e0.bs b o e).1
  have lim : s.heap.NoLimit := e0.mod.nolimit.keeps fun b o e => (e0.bs b o e).1
  have hkind : ∀ y ∈ ps.zip us, scope.names.lookup y.1 = some .local ∨ (scope.names.lookup y.1 = some .cell ∧ ((cellsFrom (s.heap.objs.size + 1) scope.names []).lookup y.1).isSome = true) := fun ⟨n, v⟩ hy => by
    rcases S.par n (List.of_mem_zip hy).1 with q | q
    · exact .inl q
    · exact .inr ⟨q, PySem.W.cellsFrom_some _ _ _ (.inl q)⟩
  refine codeAny_call_function hr.depth (KX _ _ lk) rfl S.co S.gen rfl (PySem.W.codeRec_of KX hcd) (hb _ _ _ _ ?_)
  refine wpAny_newFunctionEnv_cells S.kind hkind fun env he s1 x => ?_
  subst he
  refine ⟨lim.keeps x.toInCall.keep, codeAny_func ?_⟩
  obtain ⟨t, ht, hq⟩ := hbody A outer s H vs Q E (hr.deeper _) hsp
  have I : Inv (cxOf CX P w K mg base N qual scope f cdv A outer s H E) [] (start N vs) H s1 := inv_start S hr.hd e0 hl r x
  refine wpAny_mono (ht [] s1 (start N vs) H _ I hq) (fun fl s' hs => ?_) fun e s' hs => hs
  have fin : ∀ {σ' : St} {H' : Hp} {v : V} {u : Value}, Inv (cxOf CX P w K mg base N qual scope f cdv A outer s H E) [] σ' H' s' → RelV v u → Q v H' → CE outer P w H s Q u s' :=
    fun {σ' H' v u} J rv q => ⟨v, H', J.os, J.bare, J.base, J.hok, rv, q⟩
  cases fl with
  | ret u =>
    obtain ⟨v, σ', H', J, rv, q⟩ := hs
    exact fin J rv q
  | next =>
    obtain ⟨σ', H', J, q⟩ := hs
    exact fin (v := V.non) (u := Value.none) J rfl q
  | brk =>
    obtain ⟨_, _, _, q⟩ := hs
    exact False.elim q
  | cont =>
    obtain ⟨_, _, _, q⟩ := hs
    exact False.elim q
end L2
namespace L2
open PySem PySem.Spec PyProof.Rows
section
variable {X : Cx} {x : Str} {p pos : Pos} {e : Expr} {es : List Expr} {t : TA} {id T : String} {r : List V → Hp → VK → Prop}
noncomputable def tCB (r : List V → Hp → VK → Prop) (t : TA) : TE := fun σ H Q => t σ H fun vs H1 => r vs H1 Q
theorem pe_callB (hc : CallR X (.builtin id) r) (hg : Gl X x) (hm : X.mg x = none) (hv : bootBuiltins x = some (.builtin id)) (ha : PA X (e :: es) t) (hn : x ≠ "__name__" := by decide) (hdb : (x == ("__debug__" : Str)) = false := by decide)
    (he : starEach (e :: es) X.env = (false, eval e X.env) :: starEach es X.env := by rfl) (hpl : (backTo pos (starEach es X.env)).any (·.1) = false := by rfl) : PE X (.Call (.Name x p) (e :: es) [] pos) (tCB r t) := by
  intro pins s σ H Q I h
  refine wpAny_Call_Name_kw (ld_blt I hg hm hv ?_ hn hdb)
  exact PyProof.Rows.callWith_builtin1 (thn (ha pos pins s σ H _ I h) fun us s1 ⟨vs, H1, I1, r1, q1⟩ => hc pins s1 σ H1 vs us Q I1 r1 q1) he hpl
theorem pe_callTy (hc : CallR X (.type T) r) (hg : Gl X x) (hm : X.mg x = none) (hv : bootBuiltins x = some (.type T)) (ha : PA X (e :: es) t) (hn : x ≠ "__name__" := by decide) (hdb : (x == ("__debug__" : Str)) = false := by decide)
    (he : starEach (e :: es) X.env = (false, eval e X.env) :: starEach es X.env := by rfl) (hpl : (backTo pos (starEach es X.env)).any (·.1) = false := by rfl) : PE X (.Call (.Name x p) (e :: es) [] pos) (tCB r t) := by
  intro pins s σ H Q I h
  refine wpAny_Call_Name_kw (ld_blt I hg hm hv ?_ hn hdb)
  exact PyProof.Rows.callWith_type1 (thn (ha pos pins s σ H _ I h) fun us s1 ⟨vs, H1, I1, r1, q1⟩ => hc pins s1 σ H1 vs us Q I1 r1 q1) he hpl
end
end L2
namespace HT
open PySem PyProof.Rows
section
open PySem.SeqAt
open PySem.AutoSeq1 (wpAny_loadPart')
open PySem.MeetsSeq PySem.MeetsSeq2 PySem.MeetsSeq3
end
section
variable {prog : Program} {w : World} {A : Around} {E : Value → Shared → Prop} {s : Shared}
/-! ### t[a:b], not the whole -/
noncomputable def sIx (n d : Nat) : Option Int → Nat
  | none => d
  | some v => if v < 0 then (v + (n : Int)).toNat else min v.toNat n
theorem sIx_none (n d : Nat) : sIx n d none = d := rfl
theorem sIx_nat (n d k : Nat) : sIx n d (some (k : Int)) = min k n := by
  show (if (k : Int) < 0 then ((k : Int) + (n : Int)).toNat else min (k : Int).toNat n) = min k n
  rw [if_neg (by omega), Int.toNat_natCast]
end
end HT
namespace L2
open PySem PySem.Spec PyProof.Rows
/-! ### the parts of a slice -/
noncomputable abbrev TO := St → Hp → (Option Int → Hp → Prop) → Prop
noncomputable def PO (X : Cx) (e : Option Expr) (t : TO) : Prop :=
  ∀ (pins : List (Addr × Obj)) (s : Shared) (σ : St) (H : Hp) (Q : Option Int → Hp → Prop), Inv X pins σ H s → t σ H Q →
    wpAny (model X.prog X.w) X.A (evalPart e X.env) (fun u s' => ∃ o H', Inv X pins σ H' s' ∧ IsPart u o ∧ Q o H') X.xe s
noncomputable def tNoPart : TO := fun _ H Q => Q none H
noncomputable def tPart (t : TE) : TO := fun σ H Q => t σ H fun x H1 => ∃ i, x = .int i ∧ Q (some i) H1

section
variable {X : Cx} {e : Expr} {te : TE} {lo hi : Option Expr} {tl th : TO} {pos p2 : Pos}
theorem po_none : PO X none tNoPart := by
  intro pins s σ H Q I h
  rw [evalPart_none]
  exact wpAny_pure ⟨none, H, I, .none, h⟩
theorem po_some (h : PE X e te) : PO X (some e) (tPart te) := by
  intro pins s σ H Q I hw
  rw [evalPart_some]
  refine thn (h pins s σ H _ I hw) fun u s1 ⟨x, H1, I1, r1, q1⟩ => ?_
  obtain ⟨i, rfl, q⟩ := q1
  obtain ⟨t, rfl⟩ := r1
  exact ⟨some i, H1, I1, .int i t, q⟩

noncomputable def SlR (X : Cx) (r : V → Option Int → Option Int → Hp → VK → Prop) : Prop :=
  ∀ (pins : List (Addr × Obj)) (s : Shared) (σ : St) (H : Hp) (x : V) (v vl vu : Value) (lo hi : Option Int) (sl : Addr) (Q : VK), Inv X pins σ H s → RelV x v → s.heap.IsSliceOf sl vl vu .none → IsPart vl lo → IsPart vu hi → r x lo hi H Q →
    ∃ T id, typeLookup (.type T) "__getitem__" = pure (some (.builtin id)) ∧ s.TypeIs v T ∧ wpAny (model X.prog X.w) X.A (getItem v (.ref sl)) (EP X pins σ Q) X.xe s
noncomputable def tSl (r : V → Option Int → Option Int → Hp → VK → Prop) (te : TE) (tl th : TO) : TE := fun σ H Q => te σ H fun x H1 => tl σ H1 fun l H2 => th σ H2 fun u H3 => r x l u H3 Q
theorem pe_slice {r : V → Option Int → Option Int → Hp → VK → Prop} (hr : SlR X r) (he : PE X e te) (hl : PO X lo tl) (hu : PO X hi th) : PE X (.Subscript e (.Slice lo hi none p2) pos) (tSl r te tl th) := by
  intro pins s σ H Q I h
  refine Subscript_ (thn (he pins s σ H _ I h) fun v s1 ⟨x, H1, I1, r1, q1⟩ => ?_)
  refine wpAny_Slice (thn (hl pins s1 σ H1 _ I1 q1) fun vl s2 ⟨l, H2, I2, pl, q2⟩ => thn (hu pins s2 σ H2 _ I2 q2) fun vu s3 ⟨u, H3, I3, pu, q3⟩ => ?_)
  rw [evalPart_none]
  refine wpAny_pure ?_
  have I4 : Inv X pins σ H3 { s3 with heap := s3.heap.push { cls := .type "slice", data := .fields #[vl, vu, .none] } } := I3.kept (t' := s3.toks) fun b ob q => Heap.get?_push_of_some _ q
  obtain ⟨T, id, hT, ht, hg⟩ := hr pins { s3 with heap := s3.heap.push { cls := .type "slice", data := .fields #[vl, vu, .none] } } σ H3 x v vl vu l u s3.heap.objs.size Q I4 r1 (Heap.IsSliceOf.new ..) pl pu q3
  show wpAny (model X.prog X.w) X.A (subscriptTail e (.Slice lo hi none p2) v (.ref s3.heap.objs.size)) (EP X pins σ Q) X.xe { s3 with heap := s3.heap.push { cls := .type "slice", data := .fields #[vl, vu, .none] } }
  exact tail_any (ops := [.ref s3.heap.objs.size, v]) ht hT hg (by with_unfolding_all rfl)

noncomputable def cutV (xs : List V) (lo hi : Option Int) : List V := (xs.drop (HT.sIx xs.length 0 lo)).take (HT.sIx xs.length xs.length hi - HT.sIx xs.length 0 lo)
theorem cutV_length (xs : List V) (lo hi : Option Int) : (cutV xs lo hi).length ≤ xs.length := by
  unfold cutV
  rw [List.length_take, List.length_drop]
  omega
/-! ### t < u, t + u -/
end
end L2
namespace L2
open PySem PySem.Spec PyProof.Rows
/-! ### places -/
noncomputable def ixN (n : Nat) (i : Int) : Option Nat := if 0 ≤ i then (if i < n then some i.toNat else none) else if -(n : Int) ≤ i then some (i + n).toNat else none
noncomputable def atI {α : Type} (xs : List α) (i : Int) : Option α := (ixN xs.length i).bind fun j => xs[j]?
theorem ixN_seq {n : Nat} {i : Int} {j : Nat} (h : ixN n i = some j) : seqIndex? i n = some j ∧ j < n ∧ -(n : Int) ≤ i ∧ i < n := by
  unfold ixN at h
  by_cases h0 : 0 ≤ i
  · rw [if_pos h0] at h
    by_cases h1 : i < n
    · rw [if_pos h1] at h
      have e : i.toNat = j := Option.some.inj h
      exact ⟨by rw [seqIndex_of h0 h1, e], by omega, by omega, h1⟩
    · rw [if_neg h1] at h; cases h
  · rw [if_neg h0] at h
    by_cases h1 : -(n : Int) ≤ i
    · rw [if_pos h1] at h
      have e : (i + n).toNat = j := Option.some.inj h
      exact ⟨by rw [seqIndex_neg (by omega) h1, e], by omega, h1, by omega⟩
    · rw [if_neg h1] at h; cases h
theorem atI_get {α : Type} {xs : List α} {i : Int} {v : α} (h : atI xs i = some v) : ∃ j, seqIndex? i xs.length = some j ∧ xs[j]? = some v ∧ j < xs.length ∧ -(xs.length : Int) ≤ i ∧ i < xs.length := by
  unfold atI at h
  cases e : ixN xs.length i with
  | none => rw [e] at h; cases h
  | some j =>
    rw [e] at h
    obtain ⟨h1, h2, h3, h4⟩ := ixN_seq e
    exact ⟨j, h1, h, h2, h3, h4⟩
theorem atI_nat {α : Type} {xs : List α} {j : Nat} {v : α} (h : xs[j]? = some v) : atI xs (j : Int) = some v := by
  have hj : j < xs.length := (List.getElem?_eq_some_iff.mp h).1
  have e : ixN xs.length (j : Int) = some j := by
    unfold ixN
    rw [if_pos (by omega), if_pos (by omega)]; simp
  unfold atI; rw [e]; exact h
/-! ### what may be subscripted -/
noncomputable def PlainIx (b : Expr) : Prop := ∀ o i, subscripted b false o i = operate [o, i] (getItem o i)
noncomputable def IxR (X : Cx) (r : R2) : Prop :=
  ∀ (value slice : Expr) (pins : List (Addr × Obj)) (s : Shared) (σ : St) (H : Hp) (x y : V) (v u : Value) (Q : VK), Inv X pins σ H s → RelV x v → RelV y u → r x y H Q →
    subscripted slice false v u = operate [v, u] (getItem v u) → wpAny (model X.prog X.w) X.A (subscriptTail value slice v u) (EP X pins σ Q) X.xe s
noncomputable def MtR (X : Cx) (id : String) (r : V → List V → Hp → VK → Prop) : Prop :=
  ∀ (pins : List (Addr × Obj)) (s : Shared) (σ : St) (H : Hp) (x : V) (xs : List V) (v : Value) (us : List Value) (Q : VK), Inv X pins σ H s → RelV x v → Vals xs us → r x xs H Q →
    wpAny (model X.prog X.w) X.A (call (.builtin id) (v :: us)) (EP X pins σ Q) X.xe s
section
variable {X : Cx} {a b : Expr} {ta tb : TE} {pos : Pos}
theorem pe_ix {r : R2} (hr : IxR X r) (ha : PE X a ta) (hb : PE X b tb) (hs : PlainIx b) : PE X (.Subscript a b pos) (tOp r ta tb) := by
  intro pins s σ H Q I h
  exact Subscript_ (binT ha hb I h fun v u s2 x y H2 I2 rx ry q => hr a b pins s2 σ H2 x y v u Q I2 rx ry q (hs _ _))

noncomputable def rIxL (K : PySem.W.Frag) : R2 := fun x y H Q => ∃ p xs i v, x = .ref p ∧ y = .int i ∧ SqL K H p xs ∧ atI xs i = some v ∧ Q v H
noncomputable def rIxT (K : PySem.W.Frag) : R2 := fun x y H Q => ∃ p xs i v, x = .ref p ∧ y = .int i ∧ SqT K H p xs ∧ atI xs i = some v ∧ Q v H
noncomputable def rIxS : R2 := fun x y H Q => ∃ z i c, x = .str z ∧ y = .int i ∧ z.length ≤ sizeLine ∧ atI z.cps.toList i = some c ∧ Q (.str ⟨#[c]⟩) H
theorem ix_list : IxR X (rIxL X.K) := by
  intro value slice pins s σ H x y v u Q I rx ry h hs
  obtain ⟨p, xs, i, z, rfl, rfl, hq, he, q⟩ := h
  cases rx
  obtain ⟨t, rfl⟩ := ry
  obtain ⟨its, r, pl, hz⟩ := I.list hq
  obtain ⟨j, h1, h2, h3, h4, h5⟩ := atI_get he
  obtain ⟨w, ew, rw'⟩ := r.get h2
  have hl := r.length
  have hn := line63
  have fin : EP X pins σ Q w s := ⟨z, H, I, rw', q⟩
  by_cases h0 : 0 ≤ i
  · have hj : i.toNat = j := by
      rw [seqIndex_of h0 h5] at h1
      exact Option.some.inj h1
    exact item_listR pl.isList h0 (by omega) (by rw [hj]; simpa using ew) fin hs
  · have hj : (i + (its.toArray.size : Int)).toNat = j := by
      rw [seqIndex_neg (by omega) h4] at h1
      rw [List.size_toArray, ← hl]
      exact Option.some.inj h1
    exact subscriptTail_builtinR (x := w) pl.isList.typeIs slot_list_getitem.lookup
      (wpAny_getItem_list_neg (Q := fun r s' => r = w ∧ EP X pins σ Q r s') pl.isList (by omega) (by rw [List.size_toArray] <;> omega) (by omega) (by rw [hj]; simpa using ew) ⟨rfl, fin⟩) hs
theorem ix_tup : IxR X (rIxT X.K) := by
  intro value slice pins s σ H x y v u Q I rx ry h hs
  obtain ⟨p, xs, i, z, rfl, rfl, hq, he, q⟩ := h
  cases rx
  obtain ⟨t, rfl⟩ := ry
  obtain ⟨its, r, pl, hz⟩ := I.tuple hq
  obtain ⟨j, h1, h2, h3, h4, h5⟩ := atI_get he
  obtain ⟨w, ew, rw'⟩ := r.get h2
  have hl := r.length
  have hn := line63
  have fin : EP X pins σ Q w s := ⟨z, H, I, rw', q⟩
  exact subscriptTail_builtinR (x := w) pl.typeIs slot_tuple_getitem.lookup
    (getItem_tuple (j := j) (Q := fun r s' => r = w ∧ EP X pins σ Q r s') pl (by omega) (by omega) (by rw [List.size_toArray, ← hl]; exact h1) (by simpa using ew) ⟨rfl, fin⟩) hs
theorem ix_str : IxR X rIxS := by
  intro value slice pins s σ H x y v u Q I rx ry h hs
  obtain ⟨z, i, c, rfl, rfl, hz, he, q⟩ := h
  obtain ⟨t, rfl⟩ := rx
  obtain ⟨t', rfl⟩ := ry
  obtain ⟨j, h1, h2, h3, h4, h5⟩ := atI_get he
  have hl : z.cps.toList.length = z.length := by simp [Str.length]
  rw [hl] at h1 h4 h5
  have hn := line63
  exact tail_any (typeIs_str s z t) slot_str_getitem.lookup (getItem_str (c := c) (by
    have e1 : decide (i < -(2 ^ 63 : Int)) = false := decide_eq_false (by omega)
    have e2 : decide (i ≥ 2 ^ 63) = false := decide_eq_false (by omega)
    rw [e1, e2, Bool.or_false]) (by rw [h1]; simpa using h2) ⟨.str ⟨#[c]⟩, H, I.tok _, ⟨_, rfl⟩, q⟩) hs
/-! ### xs[i] = v, any sign -/
theorem mapSeq_set (its : List Value) (n j : Nat) (u : Value) : Obj.mapSeq (·.setIfInBounds j u) { cls := .type "list", data := .seq its.toArray n } = { cls := .type "list", data := .seq (its.set j u).toArray n } := by
  simp [Obj.mapSeq]
theorem Inv.lst {pins : List (Addr × Obj)} {σ : St} {H : Hp} {s : Shared} {p : Addr} {xs : List V} (I : Inv X pins σ H s) (h : H p = some (.lst xs)) :
    ∃ (its : List Value) (n : Nat), Vals xs its ∧ s.heap.get? p = some { cls := .type "list", data := .seq its.toArray n } ∧ xs.length ≤ sizeLine := by
  obtain ⟨z, its, n, r, e⟩ := I.hok p _ h
  exact ⟨its, n, r, e, z⟩
theorem Inv.lstUpd {pins : List (Addr × Obj)} {σ : St} {H : Hp} {s : Shared} {p : Addr} {xs ys : List V} {its its' : List Value} {n n' : Nat} {f : Obj → Obj} (I : Inv X pins σ H s) (h : H p = some (.lst xs))
    (ho : s.heap.get? p = some { cls := .type "list", data := .seq its.toArray n }) (hf : f { cls := .type "list", data := .seq its.toArray n } = { cls := .type "list", data := .seq its'.toArray n' }) (r : Vals ys its') (hz : ys.length ≤ sizeLine) (t : Nat) :
    Inv X pins σ (upd H p (.lst ys)) { s with heap := s.heap.update p f, toks := t } := by
  have e : (s.heap.update p f).get? p = some { cls := .type "list", data := .seq its'.toArray n' } := by
    rw [Heap.get?_update_self f ho (by rw [hf] <;> rfl), hf]
  refine I.write (x := p) (e := p) (by rw [h]; trivial) (.inl rfl) (fun b u hb q => (Heap.get?_update_other _ _ (Ne.symm hb)).trans q) ⟨_, e⟩ ?_
  exact ⟨hz, its', n', r, e⟩
noncomputable def rSetL : V → V → V → Hp → (Hp → Prop) → Prop := fun o i v H Q => ∃ p xs k j, o = .ref p ∧ i = .int k ∧ H p = some (.lst xs) ∧ ixN xs.length k = some j ∧ Q (upd H p (.lst (xs.set j v)))
theorem set_list : PSet X rSetL := by
  intro pins s σ H o i v ov iv u Q I ro ri rv h
  obtain ⟨p, xs, k, j, rfl, rfl, hp, hj, q⟩ := h
  cases ro
  obtain ⟨t, rfl⟩ := ri
  obtain ⟨its, n, r, ho, hz⟩ := I.lst hp
  obtain ⟨h1, h2, h3, h4⟩ := ixN_seq hj
  have hl := r.length
  have hn := line63
  have I' : Inv X pins σ (upd H p (.lst (xs.set j v))) { s with heap := s.heap.update p (Obj.mapSeq (·.setIfInBounds j u)) } :=
    I.lstUpd hp ho (mapSeq_set its n j u) (r.set rv j) (by rw [List.length_set]; exact hz) s.toks
  by_cases h0 : 0 ≤ k
  · have hk : k.toNat = j := by
      rw [seqIndex_of h0 h4] at h1
      exact Option.some.inj h1
    exact PySem.W.ki_setAt ho h0 (by omega) (by rw [List.size_toArray, ← hl]; exact h4) (by rw [hk]; exact ⟨_, I', q⟩)
  · have hk : (k + (its.toArray.size : Int)).toNat = j := by
      rw [seqIndex_neg (by omega) h3] at h1
      rw [List.size_toArray, ← hl]
      exact Option.some.inj h1
    exact PySem.W.ki_setBack ho (by omega) (by rw [List.size_toArray, ← hl]; exact h3) (by omega) (by rw [hk]; exact ⟨_, I', q⟩)

/-! ### slices -/
theorem slice_bounds (lo hi : Option Int) (n : Nat) : (sliceBounds lo hi none n).1 = ((HT.sIx n 0 lo : Nat) : Int) ∧ (sliceBounds lo hi none n).2.1 = ((HT.sIx n n hi : Nat) : Int) ∧ (sliceBounds lo hi none n).2.2 = 1 := by
  refine ⟨?_, ?_, rfl⟩
  · cases lo with
    | none => simp [sliceBounds, HT.sIx]
    | some i =>
      simp only [sliceBounds, HT.sIx, Option.getD_none, show (1 : Int) > 0 by decide, if_true]
      by_cases h : i < 0
      · simp only [h, if_true] <;> omega
      · simp only [h, if_false] <;> omega
  · cases hi with
    | none => simp [sliceBounds, HT.sIx]
    | some i =>
      simp only [sliceBounds, HT.sIx, Option.getD_none, show (1 : Int) > 0 by decide, if_true]
      by_cases h : i < 0
      · simp only [h, if_true] <;> omega
      · simp only [h, if_false] <;> omega
theorem slicePick_cut (its : List Value) (lo hi : Option Int) : slicePick its.toArray lo hi none = ((its.drop (HT.sIx its.length 0 lo)).take (HT.sIx its.length its.length hi - HT.sIx its.length 0 lo)).toArray := by
  obtain ⟨h1, h2, h3⟩ := slice_bounds lo hi its.toArray.size
  unfold slicePick
  rw [h1, h2, h3]
  simp only [sliceRange_one, pick_run, List.size_toArray] <;> rfl
noncomputable def rSlL (K : PySem.W.Frag) : V → Option Int → Option Int → Hp → VK → Prop := fun x lo hi H Q => ∃ a xs, x = .ref a ∧ SqL K H a xs ∧ ∀ p, H p = none → Q (.ref p) (upd H p (.lst (cutV xs lo hi)))
theorem sl_list : SlR X (rSlL X.K) := by
  intro pins s σ H x v vl vu lo hi sl Q I rx hs pl pu h
  obtain ⟨a, xs, rfl, hx, q⟩ := h
  cases rx
  obtain ⟨its, r, ht, hz⟩ := I.list hx
  have hlen := r.length
  refine ⟨"list", _, slot_list_getitem.lookup, ht.isList.typeIs, ?_⟩
  refine wpAny_getItem_list_slice ht.isList hs pl pu .none (by simp) ?_ (by rw [List.size_toArray] <;> omega)
  rw [slicePick_cut, ← hlen]
  refine ⟨.ref s.heap.objs.size, _, I.laid (t' := s.toks) (o := .lst (cutV xs lo hi)) (fun b ob q => Heap.get?_push_of_some _ q) (Nat.le_refl _) ?_, rfl, q _ (I.hok.fresh (Nat.le_refl _))⟩
  exact ⟨Nat.le_trans (cutV_length xs lo hi) hz, _, 0, (r.drop (HT.sIx xs.length 0 lo)).take (HT.sIx xs.length xs.length hi - HT.sIx xs.length 0 lo), Heap.get?_push_size _ rfl⟩

/-! ### in, not in: flat items -/
noncomputable def flatV : V → Bool
  | .non => true
  | .bl _ => true
  | .int _ => true
  | .str _ => true
  | _ => false
noncomputable def eqV : V → V → Bool
  | .non, .non => true
  | .bl a, .bl b => a == b
  | .bl a, .int b => (if a then 1 else 0) == b
  | .int a, .bl b => a == (if b then 1 else 0)
  | .int a, .int b => a == b
  | .str a, .str b => a == b
  | _, _ => false
theorem eqAt_V {A : Around} {s : Shared} {y x : V} {u v : Value} (ry : RelV y u) (rx : RelV x v) (fy : flatV y = true) (fx : flatV x = true) : SeqAt.EqAt A s u v (eqV y x) := by
  cases y with
  | non =>
    cases ry
    cases x with
    | non => cases rx; exact SeqAt.EqAt.same _
    | bl b => cases rx; exact SeqAt.EqAt.none_bool b
    | int b => obtain ⟨t, rfl⟩ := rx; exact SeqAt.EqAt.none_int b t
    | str b => obtain ⟨t, rfl⟩ := rx; exact SeqAt.EqAt.none_str b t
    | _ => exact absurd (show false = true from fx) Bool.false_ne_true
  | bl a =>
    cases ry
    cases x with
    | non => cases rx; exact SeqAt.EqAt.bool_none a
    | bl b => cases rx; exact SeqAt.EqAt.bool_bool a b
    | int b => obtain ⟨t, rfl⟩ := rx; exact SeqAt.EqAt.bool_int a b t
    | str b => obtain ⟨t, rfl⟩ := rx; exact SeqAt.EqAt.bool_str a b t
    | _ => exact absurd (show false = true from fx) Bool.false_ne_true
  | int a =>
    obtain ⟨t', rfl⟩ := ry
    cases x with
    | non => cases rx; exact SeqAt.EqAt.int_none a t'
    | bl b => cases rx; exact SeqAt.EqAt.int_bool a t' b
    | int b => obtain ⟨t, rfl⟩ := rx; exact SeqAt.EqAt.int_int a t' b t
    | str b => obtain ⟨t, rfl⟩ := rx; exact SeqAt.EqAt.int_str a t' b t
    | _ => exact absurd (show false = true from fx) Bool.false_ne_true
  | str a =>
    obtain ⟨t', rfl⟩ := ry
    cases x with
    | non => cases rx; exact SeqAt.EqAt.str_none a t'
    | bl b => cases rx; exact SeqAt.EqAt.str_bool a t' b
    | int b => obtain ⟨t, rfl⟩ := rx; exact SeqAt.EqAt.str_int a t' b t
    | str b => obtain ⟨t, rfl⟩ := rx; exact SeqAt.EqAt.str_str a t' b t
    | _ => exact absurd (show false = true from fx) Bool.false_ne_true
  | _ => exact absurd (show false = true from fy) Bool.false_ne_true
noncomputable def eqU (x : V) (u : Value) : Bool := match u with
  | .none => eqV .non x
  | .bool b => eqV (.bl b) x
  | .int i _ => eqV (.int i) x
  | .str z _ => eqV (.str z) x
  | _ => false
theorem eqU_of {x y : V} {u : Value} (r : RelV y u) (f : flatV y = true) : eqU x u = eqV y x := by
  cases y with
  | non => cases r; rfl
  | bl b => cases r; rfl
  | int i => obtain ⟨t, rfl⟩ := r; rfl
  | str z => obtain ⟨t, rfl⟩ := r; rfl
  | _ => exact absurd (show false = true from f) Bool.false_ne_true
theorem any_eqU {x : V} : ∀ {xs : List V} {us : List Value}, Vals xs us → xs.all flatV = true → us.any (eqU x) = xs.any fun y => eqV y x
  | _, _, .nil, _ => rfl
  | y :: xs, u :: us, .cons r t, f => by
    rw [List.all_cons, Bool.and_eq_true] at f
    rw [List.any_cons, List.any_cons, eqU_of r f.1, any_eqU t f.2]
theorem mem_eqAt {A : Around} {s : Shared} {x : V} {v : Value} (rx : RelV x v) (fx : flatV x = true) : ∀ {xs : List V} {us : List Value}, Vals xs us → xs.all flatV = true → ∀ u ∈ us, SeqAt.EqAt A s u v (eqU x u)
  | _, _, .nil, _ => fun u hu => by cases hu
  | y :: xs, u :: us, .cons r t, f => fun u' hu => by
    rw [List.all_cons, Bool.and_eq_true] at f
    rcases List.mem_cons.mp hu with rfl | hu
    · rw [eqU_of r f.1]; exact eqAt_V r rx f.1 fx
    · exact mem_eqAt rx fx t f.2 u' hu
noncomputable def inV (x : V) (xs : List V) : Bool := xs.any fun y => eqV y x
noncomputable def rIn (K : PySem.W.Frag) (neg : Bool) : R2 := fun x y H Q => ∃ p xs, y = .ref p ∧ (SqL K H p xs ∨ SqT K H p xs) ∧ flatV x = true ∧ xs.all flatV = true ∧ Q (.bl (if neg then !inV x xs else inV x xs)) H
theorem op_in_seq : OpR X (compareOp .In) (rIn X.K false) := by
  intro pins s σ H x y v u Q I rx ry h
  obtain ⟨p, xs, rfl, hq, fx, fs, q⟩ := h
  cases ry
  rcases hq with hq | hq
  · obtain ⟨its, r, pl, hz⟩ := I.list hq
    refine SeqAt.in_listAt (eqU x) pl.isList (fun w hw => mem_eqAt rx fx r fs w (by simpa using hw)) ⟨.bl _, H, I, rfl, ?_⟩
    rw [show its.toArray.any (eqU x) = its.any (eqU x) by simp, any_eqU r fs]
    exact q
  · obtain ⟨its, r, pl, hz⟩ := I.tuple hq
    refine SeqAt.in_tupleAt (eqU x) pl (fun w hw => mem_eqAt rx fx r fs w (by simpa using hw)) ⟨.bl _, H, I, rfl, ?_⟩
    rw [show its.toArray.any (eqU x) = its.any (eqU x) by simp, any_eqU r fs]
    exact q
/-! ### len, list(x), tuple(x) of any list or tuple that is read -/
theorem call_len_seq : CallR X (.builtin "len") (fun xs H Q => ∃ p ys, xs = [.ref p] ∧ (SqL X.K H p ys ∨ SqT X.K H p ys) ∧ Q (.int ys.length) H) := by
  intro pins s σ H xs us Q I r h
  obtain ⟨p, ys, rfl, hq, q⟩ := h
  obtain ⟨u, rfl, rx⟩ := vals1 r
  cases rx
  have hn := line63
  rcases hq with hq | hq
  · obtain ⟨its, r', pl, hz⟩ := I.list hq
    have hlen := r'.length
    exact Calls.call_len_list pl.isList (by simp only [List.size_toArray] <;> omega) ⟨.int ys.length, H, I.tok _, ⟨s.toks + 1, by rw [List.size_toArray, hlen]⟩, q⟩
  · obtain ⟨its, r', pl, hz⟩ := I.tuple hq
    have hlen := r'.length
    exact len_tuple pl (by simp only [List.size_toArray] <;> omega) ⟨.int ys.length, H, I.tok _, ⟨s.toks + 1, by rw [List.size_toArray, hlen]⟩, q⟩
theorem call_len_str : CallR X (.builtin "len") (fun xs H Q => ∃ z, xs = [.str z] ∧ z.length ≤ sizeLine ∧ Q (.int z.length) H) := by
  intro pins s σ H xs us Q I r h
  obtain ⟨z, rfl, hz, q⟩ := h
  obtain ⟨u, rfl, t, rfl⟩ := vals1 r
  have hn := line63
  exact len_str (by omega) ⟨.int z.length, H, I.tok _, ⟨_, rfl⟩, q⟩
theorem call_list_of : CallR X (.type "list") (fun xs H Q => ∃ p ys, xs = [.ref p] ∧ (SqL X.K H p ys ∨ SqT X.K H p ys) ∧ ∀ l, H l = none → Q (.ref l) (upd H l (.lst ys))) := by
  intro pins s σ H xs us Q I r h
  obtain ⟨p, ys, rfl, hq, q⟩ := h
  obtain ⟨u, rfl, rx⟩ := vals1 r
  cases rx
  have fin : ∀ (its : List Value), Vals ys its → ys.length ≤ sizeLine → ∀ (h' : Heap) (c' : Nat), (∀ b o', s.heap.get? b = some o' → h'.get? b = some o') →
      h'.get? s.heap.objs.size = some { cls := .type "list", dict := none, data := .seq its.toArray c', slots := #[] } → EP X pins σ Q (.ref s.heap.objs.size) { s with heap := h' } := fun its r' hz h' c' kp e =>
    ⟨.ref s.heap.objs.size, _, I.laid (t' := s.toks) kp (Nat.le_refl _) (show ObjOk X.prog X.w _ h' _ (.lst ys) from ⟨hz, its, c', r', e⟩), rfl, q _ (I.hok.fresh (Nat.le_refl _))⟩
  rcases hq with hq | hq
  · obtain ⟨its, r', pl, hz⟩ := I.list hq
    have hlen := r'.length
    obtain ⟨o, ho, hc, n, hd⟩ := pl.isList
    exact call_list_seq p (.inl rfl) ho hc hd (fun h' c' kp e => fin its r' hz h' c' kp e) (by simp only [List.size_toArray] <;> omega)
  · obtain ⟨its, r', pl, hz⟩ := I.tuple hq
    have hlen := r'.length
    obtain ⟨o, ho, hc, n, hd⟩ := pl
    exact call_list_seq p (.inr rfl) ho hc hd (fun h' c' kp e => fin its r' hz h' c' kp e) (by simp only [List.size_toArray] <;> omega)
theorem call_tuple_of : CallR X (.type "tuple") (fun xs H Q => ∃ p ys, xs = [.ref p] ∧ ((SqL X.K H p ys ∧ ∀ l, H l = none → Q (.ref l) (upd H l (.tup ys))) ∨ (SqT X.K H p ys ∧ Q (.ref p) H))) := by
  intro pins s σ H xs us Q I r h
  obtain ⟨p, ys, rfl, h⟩ := h
  obtain ⟨u, rfl, rx⟩ := vals1 r
  cases rx
  rcases h with ⟨hq, q⟩ | ⟨hq, q⟩
  · obtain ⟨its, r', pl, hz⟩ := I.list hq
    have hlen := r'.length
    refine call_tuple_list pl.isList (fun h' kp => ?_) (by simp only [List.size_toArray] <;> omega)
    have I1 : Inv X pins σ H { s with heap := h' } := I.kept (t' := s.toks) kp
    have I2 : Inv X pins σ (upd H h'.objs.size (.tup ys)) { s with heap := h'.push { cls := .type "tuple", data := .seq its.toArray } } :=
      I1.laid (t' := s.toks) (fun b o e => Heap.get?_push_of_some _ e) (Nat.le_refl _) (show ObjOk X.prog X.w _ _ _ (.tup ys) from ⟨hz, its, r', IsTup.new _ _⟩)
    exact ⟨.ref h'.objs.size, _, I2, rfl, q _ (I1.hok.fresh (Nat.le_refl _))⟩
  · obtain ⟨its, r', pl, hz⟩ := I.tuple hq
    exact call_tuple_same pl ⟨.ref p, H, I, rfl, q⟩

/-! ### the call of a builtin's method: o.m(..) -/
noncomputable def tyV (K : PySem.W.Frag) (T : String) (x : V) (H : Hp) : Prop := match x with
  | .str _ => T = "str"
  | .int _ => T = "int"
  | .ref p => (T = "list" ∧ ∃ xs, SqL K H p xs) ∨ (T = "tuple" ∧ ∃ o, K.lookup p = some o ∧ o.cls = .type "tuple" ∧ o.dict = none) ∨
      (T = "dict" ∧ ((∃ kvs, H p = some (.dK kvs)) ∨ ∃ kvs, H p = some (.dT kvs))) ∨ (T = "set" ∧ ∃ S n, H p = some (.set S n))
  | _ => False
theorem tyV_is {pins : List (Addr × Obj)} {σ : St} {H : Hp} {s : Shared} {T : String} {x : V} {v : Value} (I : Inv X pins σ H s) (r : RelV x v) (ty : tyV X.K T x H) :
    s.TypeIs v T ∧ ∀ a, v = .ref a → ∃ ob, s.heap.get? a = some ob ∧ ob.dict = none := by
  cases x with
  | str z =>
    obtain ⟨t, rfl⟩ := r
    cases (show T = "str" from ty)
    exact ⟨typeIs_str s z t, fun _ e => nomatch e⟩
  | int i =>
    obtain ⟨t, rfl⟩ := r
    cases (show T = "int" from ty)
    exact ⟨typeIs_int s i t, fun _ e => nomatch e⟩
  | ref p =>
    cases r
    rcases ty with ⟨rfl, xs, hq⟩ | ⟨rfl, o, hk, hc, hd⟩ | ⟨rfl, hk⟩ | ⟨rfl, S, n, hk⟩
    · obtain ⟨its, _, pl, _⟩ := I.list hq
      refine ⟨pl.isList.typeIs, fun a e => ?_⟩
      cases e
      obtain ⟨o, n, e, c, hd, _⟩ := pl
      exact ⟨o, e, hd⟩
    · refine ⟨⟨o, I.kIn p o hk, hc⟩, fun a e => ?_⟩
      cases e
      exact ⟨o, I.kIn _ o hk, hd⟩
    · have z : ∃ o, s.heap.get? p = some o ∧ o.ExactDict := by
        rcases hk with ⟨kvs, hk⟩ | ⟨kvs, hk⟩
        · obtain ⟨_, _, _, _, o, _, _, e, ex, _⟩ := I.hok p _ hk
          exact ⟨o, e, ex⟩
        · obtain ⟨_, _, _, _, o, _, _, e, ex, _⟩ := I.hok p _ hk
          exact ⟨o, e, ex⟩
      obtain ⟨o, e, ex⟩ := z
      refine ⟨⟨o, e, ex.1⟩, fun a e2 => ?_⟩
      cases e2
      exact ⟨o, e, ex.2.1⟩
    · obtain ⟨o, _, _, _, e, ex, _⟩ := I.hok p _ hk
      refine ⟨⟨o, e, ex.1⟩, fun a e2 => ?_⟩
      cases e2
      exact ⟨o, e, ex.2.1⟩
  | _ => exact False.elim ty
noncomputable def tBM0 (K : PySem.W.Frag) (T : String) (r : V → List V → Hp → VK → Prop) (to : TE) : TE := fun σ H Q => to σ H fun x H1 => tyV K T x H1 ∧ r x [] H1 Q
noncomputable def tBM (K : PySem.W.Frag) (T : String) (r : V → List V → Hp → VK → Prop) (to : TE) (t : TA) : TE := fun σ H Q => to σ H fun x H1 => tyV K T x H1 ∧ t σ H1 fun xs H2 => r x xs H2 Q
variable {o e : Expr} {es : List Expr} {to : TE} {t : TA} {name : Str} {apos cpos : Pos} {T id : String} {r : V → List V → Hp → VK → Prop}
theorem pe_bm0 (pa : PlainAttrs T) (slot : Slot T name id) (hty : typeOf (.builtin id) = pure (.type "method_descriptor")) (hm : MtR X id r) (ho : PE X o to)
    (hbase : attributeBase o name X.env (eval o X.env) = eval o X.env := by rfl) (hline : (apos.endLine == cpos.line) = true := by rfl) : PE X (.Call (.Attribute o name apos) [] [] cpos) (tBM0 X.K T r to) := by
  intro pins s σ H Q I h
  refine wpAny_Call_method0_late hbase hline (thn (ho pins s σ H _ I h) fun v s1 ⟨x, H1, I1, r1, ty, q1⟩ => ?_)
  obtain ⟨h1, h2⟩ := tyV_is I1 r1 ty
  exact ⟨T, id, pa, slot, hty, h1, h2, Calls.callWith_builtin rfl (PySem.evalArgs_none (hm pins s1 σ H1 x [] v [] Q I1 r1 .nil q1))⟩
theorem pe_bm (pa : PlainAttrs T) (slot : Slot T name id) (hty : typeOf (.builtin id) = pure (.type "method_descriptor")) (hm : MtR X id r) (ho : PE X o to) (ha : PA X (e :: es) t)
    (hbase : attributeBase o name X.env (eval o X.env) = eval o X.env := by rfl)
    (hfew : ((backTo cpos (starEach (e :: es) X.env)).all (fun x => !x.1) && (backToKw cpos (keywordEach [] X.env)).all (fun x => x.1.isSome)
      && decide ((e :: es).length + ([] : List Keyword).length + (if ([] : List Keyword).isEmpty then 0 else 1) < 30)) = true := by rfl)
    (hline : (apos.endLine == cpos.line) = true := by rfl) (hs : starEach (e :: es) X.env = (false, eval e X.env) :: starEach es X.env := by rfl) (hplain : (backTo cpos (starEach es X.env)).any (·.1) = false := by rfl) :
    PE X (.Call (.Attribute o name apos) (e :: es) [] cpos) (tBM X.K T r to t) := by
  intro pins s σ H Q I h
  refine wpAny_Call_method_late hbase hfew hline rfl (thn (ho pins s σ H _ I h) fun v s1 ⟨x, H1, I1, r1, ty, q1⟩ => ?_)
  obtain ⟨h1, h2⟩ := tyV_is I1 r1 ty
  refine ⟨T, id, pa, slot, hty, h1, h2, ?_⟩
  have hA := ha cpos pins s1 σ H1 _ I1 q1
  rw [hs] at hA ⊢
  refine Calls.callWith_builtin (by show (false || (backTo cpos (starEach es X.env)).any (·.1)) = false; rw [hplain] <;> rfl) (Calls.evalArgs_plain ?_)
  exact thn hA fun us s2 ⟨vs, H2, I2, r2, q2⟩ => hm pins s2 σ H2 x vs v us Q I2 r1 r2 q2
/- xs.append(e), list.index on a module's tuple .. are MtR facts of 06m -/
end
end L2
namespace L2
open PySem PySem.Spec PyProof.Rows
noncomputable def MtM (X : Cx) (id : String) (r : V → List V → Hp → VK → Prop) : Prop :=
  ∀ (pins : List (Addr × Obj)) (s : Shared) (σ : St) (H : Hp) (x : V) (xs : List V) (v : Value) (us : List Value) (Q : VK), Inv X pins σ H s → RelV x v → Vals xs us → r x xs H Q →
    wpAny (model X.prog X.w) X.A (call (.builtin id) (v :: us)) (EP X pins σ Q) X.xe s

/-! ### lists of values -/
theorem Vals.one : ∀ {x : V} {us : List Value}, Vals [x] us → ∃ u, us = [u] ∧ RelV x u
  | _, _, .cons r .nil => ⟨_, rfl, r⟩
theorem Vals.zero : ∀ {us : List Value}, Vals [] us → us = []
  | _, .nil => rfl
theorem Vals.dropLast {xs : List V} {us : List Value} (h : Vals xs us) : Vals xs.dropLast us.dropLast := by
  induction h with
  | nil => exact .nil
  | cons r t ih =>
    cases t with
    | nil => exact .nil
    | cons q t' => exact .cons r ih
theorem Vals.eraseIdx : ∀ {xs : List V} {us : List Value} (i : Nat), Vals xs us → Vals (xs.eraseIdx i) (us.eraseIdx i)
  | _, _, _, .nil => .nil
  | _, _, 0, .cons _ t => t
  | _, _, i + 1, .cons r t => .cons r (Vals.eraseIdx i t)
theorem Vals.reverse {xs : List V} {us : List Value} (h : Vals xs us) : Vals xs.reverse us.reverse := by
  induction h with
  | nil => exact .nil
  | cons r t ih => rw [List.reverse_cons, List.reverse_cons]; exact Vals.append ih (.cons r .nil)
theorem erase_last {α : Type} (l : List α) : l.eraseIdx (l.length - 1) = l.dropLast := by
  induction l with
  | nil => rfl
  | cons a r ih =>
    cases r with
    | nil => rfl
    | cons b r =>
      have e : (a :: b :: r).length - 1 = ((b :: r).length - 1) + 1 := by
        have h1 : (a :: b :: r).length = r.length + 2 := rfl
        have h2 : (b :: r).length = r.length + 1 := rfl
        omega
      rw [e, List.eraseIdx_cons_succ, ih]
      all_goals rfl
section
variable {X : Cx} {pins : List (Addr × Obj)} {σ : St} {H : Hp} {s : Shared} {l b : Addr} {xs ys zs : List V}
/-! ### the two steps: a tracked list is rewritten, a new list is laid -/
theorem Inv.lset {its its' : List Value} {n : Nat} {f : Array Value → Array Value} {t' : Nat} (I : Inv X pins σ H s) (hH : H l = some (.lst xs))
    (e : s.heap.get? l = some { cls := .type "list", data := .seq its.toArray n }) (hf : f its.toArray = its'.toArray) (hv : Vals ys its') (hz : ys.length ≤ sizeLine) :
    Inv X pins σ (upd H l (.lst ys)) { s with heap := s.heap.update l (Obj.mapSeq f), toks := t' } := by
  have q := PySem.IsL.update e f
  rw [hf] at q
  refine I.write (x := l) (e := l) (by rw [hH]; exact trivial) (.inl rfl) (fun b' u hb hu => (Heap.get?_update_other s.heap (Obj.mapSeq f) (Ne.symm hb)).trans hu) ⟨_, q⟩ ?_
  exact ⟨hz, its', _, hv, q⟩
theorem Inv.lnew {its : List Value} {t' : Nat} (I : Inv X pins σ H s) (hv : Vals ys its) (hz : ys.length ≤ sizeLine) :
    Inv X pins σ (upd H s.heap.objs.size (.lst ys)) { s with heap := s.heap.push { cls := .type "list", data := .seq its.toArray }, toks := t' } :=
  I.laid (fun _ _ q => Heap.get?_push_of_some _ q) (Nat.le_refl _) ⟨hz, its, 0, hv, Heap.get?_push_size _ rfl⟩
theorem Inv.fresh (I : Inv X pins σ H s) : H s.heap.objs.size = none := I.hok.fresh (Nat.le_refl _)
theorem Inv.lstM (I : Inv X pins σ H s) (hH : H l = some (.lst xs)) : xs.length ≤ sizeLine ∧ ∃ (its : List Value) (n : Nat), Vals xs its ∧ xs.length = its.length ∧ s.heap.get? l = some { cls := .type "list", data := .seq its.toArray n } := by
  obtain ⟨z, its, n, r, e⟩ := I.hok l _ hH
  exact ⟨z, its, n, r, r.length, e⟩

theorem notLongL {n : Nat} (h : n ≤ sizeLine) : Builtin.List.listTooLong n = false := by
  unfold Builtin.List.listTooLong
  exact decide_eq_false (by omega)
end
section
variable {X : Cx}
/-! ### methods -/
noncomputable def rAppend : V → List V → Hp → VK → Prop := fun x vs H Q => ∃ l xs y, x = .ref l ∧ vs = [y] ∧ H l = some (.lst xs) ∧ xs.length < sizeLine ∧ Q .non (upd H l (.lst (xs ++ [y])))
theorem mt_append : MtM X "list.append" rAppend := by
  intro pins s σ H x vs v us Q I rx rv h
  obtain ⟨l, xs, y, rfl, rfl, hH, hz, q⟩ := h
  cases rx
  obtain ⟨u, rfl, ru⟩ := rv.one
  obtain ⟨z, its, n, r, hl, e⟩ := I.lstM hH
  refine call_meets F.slot_list_append ⟨_, e, rfl⟩ F.entry_list_append (F.args_list_append_2 _ _) (PySem.list_append l its.toArray n u (by rw [List.size_toArray]; omega)) ⟨e, ?_⟩
  refine ⟨.non, _, I.lset (its' := its ++ [u]) hH e (by simp) (r.append (.cons ru .nil)) ?_, rfl, q⟩
  rw [List.length_append, List.length_singleton]
  omega

noncomputable def rExtend : V → List V → Hp → VK → Prop := fun x vs H Q => ∃ l b xs zs, x = .ref l ∧ vs = [.ref b] ∧ H l = some (.lst xs) ∧ H b = some (.lst zs) ∧ xs.length + zs.length ≤ sizeLine ∧ Q .non (upd H l (.lst (xs ++ zs)))
theorem mt_extend : MtM X "list.extend" rExtend := by
  intro pins s σ H x vs v us Q I rx rv h
  obtain ⟨l, b, xs, zs, rfl, rfl, hH, hB, hz, q⟩ := h
  cases rx
  obtain ⟨u, rfl, ru⟩ := rv.one
  cases ru
  obtain ⟨z, its, n, r, hl, e⟩ := I.lstM hH
  obtain ⟨z2, its2, n2, r2, hl2, e2⟩ := I.lstM hB
  have hsz : its.toArray.size + its2.toArray.size ≤ sizeLine := by rw [List.size_toArray, List.size_toArray]; omega
  have hlong : ¬ (!its.toArray.isEmpty && Builtin.List.listTooLong (its.toArray.size + its2.toArray.size)) = true := by
    rw [notLongL hsz, Bool.and_false]
    exact Bool.false_ne_true
  refine call_meets F.slot_list_extend ⟨_, e, rfl⟩ F.entry_list_extend (F.args_list_extend_2 _ _)
    (AutoSeq1.list_extend_list_list_0 l its.toArray n b its2.toArray n2 hlong (by rw [List.size_toArray]; omega) (by omega)) ⟨e, e2, ?_⟩
  refine ⟨.non, _, I.lset (its' := its ++ its2) hH e (by simp) (r.append r2) ?_, rfl, q⟩
  rw [List.length_append]
  omega

noncomputable def rPop : V → List V → Hp → VK → Prop := fun x vs H Q => ∃ l xs y, x = .ref l ∧ vs = [] ∧ H l = some (.lst xs) ∧ xs[xs.length - 1]? = some y ∧ Q y (upd H l (.lst xs.dropLast))
theorem mt_pop : MtM X "list.pop" rPop := by
  intro pins s σ H x vs v us Q I rx rv h
  obtain ⟨l, xs, y, rfl, rfl, hH, hy, q⟩ := h
  cases rx
  have hus := rv.zero
  subst hus
  obtain ⟨z, its, n, r, hl, e⟩ := I.lstM hH
  obtain ⟨u, hu, ru⟩ := r.get hy
  have hy' : its.toArray[its.toArray.size - 1]? = some u := by
    show its.toArray[its.length - 1]? = some u
    rw [← Array.getElem?_toList, ← hl]
    exact hu
  refine call_meets F.slot_list_pop ⟨_, e, rfl⟩ F.entry_list_pop (F.args_list_pop_1 _) (MeetsSeq.list_pop_last l its.toArray n u hy' (by rw [List.size_toArray]; omega)) ⟨e, ?_⟩
  refine ⟨y, _, I.lset (its' := its.dropLast) hH e ?_ r.dropLast ?_, ru, q⟩
  · show its.toArray.eraseIdxIfInBounds (its.toArray.size - 1) = its.dropLast.toArray
    rw [List.size_toArray, List.eraseIdxIfInBounds_toArray, erase_last]
  · rw [List.length_dropLast]
    omega

noncomputable def rClear : V → List V → Hp → VK → Prop := fun x vs H Q => ∃ l xs, x = .ref l ∧ vs = [] ∧ H l = some (.lst xs) ∧ Q .non (upd H l (.lst []))
theorem mt_clear : MtM X "list.clear" rClear := by
  intro pins s σ H x vs v us Q I rx rv h
  obtain ⟨l, xs, rfl, rfl, hH, q⟩ := h
  cases rx
  have hus := rv.zero
  subst hus
  obtain ⟨z, its, n, r, hl, e⟩ := I.lstM hH
  refine call_meets F.slot_list_clear ⟨_, e, rfl⟩ F.entry_list_clear (F.args_list_clear_1 _) (AutoSeq1.list_clear_list_0 l its.toArray n (by rw [List.size_toArray]; omega)) ⟨e, ?_⟩
  exact ⟨.non, _, I.lset (its' := []) (ys := []) hH e rfl .nil (Nat.zero_le _), rfl, q⟩

/-! ### list + list, list += list, list * int -/
noncomputable def rCat : R2 := fun x y H Q => ∃ l b xs zs, x = .ref l ∧ y = .ref b ∧ H l = some (.lst xs) ∧ H b = some (.lst zs) ∧ xs.length + zs.length ≤ sizeLine ∧ ∀ p, H p = none → Q (.ref p) (upd H p (.lst (xs ++ zs)))
theorem op_cat : OpR X (binaryOp .Add) rCat := by
  intro pins s σ H x y v u Q I rx ry h
  obtain ⟨l, b, xs, zs, rfl, rfl, hH, hB, hz, q⟩ := h
  cases rx
  cases ry
  obtain ⟨z, its, n, r, hl, e⟩ := I.lstM hH
  obtain ⟨z2, its2, n2, r2, hl2, e2⟩ := I.lstM hB
  refine PySem.P.add_list e e2 ?_ (by rw [List.size_toArray, List.size_toArray]; omega)
  have ea : its.toArray ++ its2.toArray = (its ++ its2).toArray := by simp
  rw [ea]
  exact ⟨.ref _, _, I.lnew (t' := s.toks) (r.append r2) (by rw [List.length_append]; omega), rfl, q _ I.fresh⟩
/-! ### del xs[i] -/
end
/-! ### xs[a:b] = ys -/
section
variable {prog : Program} {w : World} {A : Around} {E : Value → Shared → Prop} {s : Shared}
set_option maxRecDepth 100000 in
end
section
variable {X : Cx}
end
end L2
namespace Att
open PySem PySem.W PySem.Calls PyProof.Rows
/-! ### the script -/
theorem ints_of_wellAll {P : Params} {h : Heap} : ∀ (ns : List Int) (vs : List Value), WellAll P h vs (ns.map WData.int) → IntsAre vs ns := by
  intro ns
  induction ns with
  | nil =>
    intro vs w
    rw [List.map_nil] at w
    cases w
    exact .nil
  | cons n ns ih =>
    intro vs w
    rw [List.map_cons] at w
    cases w with
    | cons a b =>
      cases a
      exact .cons _ _ (ih _ b)

theorem script_of {l : OpenLaw} {n : Nat} (hn : l.most = some n) {P : Params} {h : Heap} {args : List WData} {vals : List Value}
    (hpre : l.row.toRowW.claim.pre args = true) (hwl : WellAll P h vals args) :
    ∃ a vs ns, vals = [Value.ref a] ∧ args = [WData.list (ns.map WData.int)] ∧ h.get? a = some { cls := .type "list", data := .seq vs.toArray } ∧ IntsAre vs ns ∧ ns.length ≤ n := by
  have hsh : WShape.hasAll [] args [.list .int] = true := (pre_splitW hpre).1
  have hc : l.pre.holds [] { args := args } = true := (pre_splitW hpre).2
  obtain ⟨d, r, rfl, h1, h2⟩ := hasAllW_cons hsh
  obtain rfl := hasAllW_nil h2
  obtain ⟨xs, rfl, h3⟩ := hasW_list h1
  obtain ⟨ns, rfl⟩ := items_int h3
  have hlen : ns.length ≤ n := by
    unfold OpenLaw.pre at hc
    have h4 : (WTm.not (.lt (.lit (.int (n : Int))) (.len (.arg 0)))).holds [] { args := [.list (ns.map .int)] } = true := by
      have h4 := (holds_andW hc).1
      rw [hn] at h4
      exact h4
    have h5 := condW_of h4 (w_not (w_lt w_lit (w_len_list (w_arg rfl))))
    rw [List.length_map] at h5
    refine Nat.le_of_not_lt fun q => ?_
    have q' : (n : Int) < ((ns.length : Nat) : Int) := by omega
    first
      | (rw [decide_eq_true q'] at h5; exact absurd h5 (by decide))
      | (simp at h5; omega)
  cases hwl with
  | cons w1 w2 =>
    cases w2
    cases w1 with
    | list ho hall => exact ⟨_, _, ns, rfl, rfl, ho, ints_of_wellAll ns _ hall, hlen⟩

theorem post_true (l : OpenLaw) (args : List WData) : l.row.toRowW.claim.post args (.bool true) args = true :=
  postW_of (r := l.row.toRowW) (X := (true == true))
    (show WShape.has [] (.bool true) .bool = true by first | rfl | decide | simp [WShape.has, WShape.arms, WShape.armsAll])
    (show (WTm.eq .res (.lit (.bool true))).value [] { args := args, res := some (.bool true), after := args } = some (.bool (true == true)) from w_eq_bool (w_res rfl) w_lit) rfl

/-! ### the attachment: holds_open's last premise (the goal 'hc' behind k_head) from a wpAny of the law's body -/
theorem attach_call {l : OpenLaw} {n : Nat} {q : Program} {loose : List Str} {XP : (Str → Option Value) → Heap → Prop} {YP : World → Heap → Prop} {d : DefRec}
    (hn : l.most = some n) (hdf : d.params.defaults = [])
    (call : ∀ (w : World) (s₀ s₁ : Shared) (mg mb : Str → Option Value) (fa : Addr) (o : Obj) (pm cd doc : Value) (a : Addr) (vs : List Value) (ns : List Int),
      Ground q loose [] XP w s₀ mg mb s₁.heap → YP w s₁.heap →
      s₁.heap.get? fa = some o → o.data = .func (docDef d.name d.params d.body d.scope pm cd doc) → s₁.heap.CodeRec cd d.name → mg d.name = some (.ref fa) →
      s₁.heap.get? a = some { cls := .type "list", data := .seq vs.toArray } → IntsAre vs ns → ns.length ≤ n → s₁.gens = #[] →
      codeAny (model l.prog w) callerA (.call (.ref fa) ⟨[.ref a], []⟩) (fun r s' => r = .ok (.ret (.bool true)) ∧ OldK s₁.heap s'.heap ∧ s'.os = s₁.os ∧ AllBare s'.gens) s₁) :
    WalkO q loose XP YP l.row.toRowW d [] (fun f vs => PySem.call f vs) := by
  intro w s₀ s₁ mg mb G Y fa o pm cd doc dV kV ho hd hcd hD hmg hg args vals as hpre hlay hrd hwl hlo
  obtain rfl : dV = .none := Dflts.none hD hdf
  obtain rfl : kV = .none := Dflts.noKw hD
  obtain ⟨a, vs, ns, rfl, rfl, hobj, hints, hlen⟩ := script_of hn hpre hwl
  refine enter_call (codeAny_mono (call w s₀ s₁ mg mb fa o pm cd doc a vs ns G Y ho (fd_plain hd) hcd hmg hobj hints hlen hg) fun r s' hq => ?_)
  obtain ⟨rfl, h2, h3, h4⟩ := hq
  exact ⟨.inl ⟨.bool true, .bool true, [], rfl, fun _ => rfl, .bool true, post_true l _, fun _ => ⟨List.Pairwise.nil, fun _ hm => (nomatch hm)⟩⟩, h2, h3, h4⟩

/-! ### rules over ANY heap (no ledger) from facts about the written part K: the library's own take a ledger (News) for what they write -/
section
variable {prog : Program} {w : World} {A : Around} {E : Value → Shared → Prop} {s : Shared} {K : Frag}
/-! the whole heap as the ledger: makes every rule that writes through a ledger a rule over any heap -/
noncomputable def ledger (h : Heap) (L d : Addr) : List (Addr × Obj) := (List.range h.objs.size).filterMap fun a => if a = L ∨ a = d then none else (h.get? a).map fun o => (a, o)
end
end Att
namespace L2
open PySem PySem.Spec PyProof.Rows
theorem vals_ints : ∀ {vs : List Value} {ns : List Int}, IntsAre vs ns → Vals (ns.map V.int) vs
  | _, _, .nil => .nil
  | _, _, .cons n t h => .cons ⟨t, rfl⟩ (vals_ints h)

end L2
namespace L2
open PySem PySem.Spec PyProof.Rows
noncomputable abbrev KOf {K : PySem.W.Frag} {h : Heap} (_ : K.In h) : PySem.W.Frag := K

end L2
/- THE LAST THEOREM (shape; LID, My.* are yours):
   My.Adr: a structure of the addresses that your layer names (classes, functions); My.Txt K t: a structure (Prop) of the equations over K;
   My.txt_mk : {K} {implicit addresses ..} (e1 : nsIn K mainGlobals "law" = some (some (.ref f))) (e2 : K.lookup f = some ⟨oc, od, .func (fnOf "law" "law" params body scope dV kV doc pm an cdv ct), sl⟩) (e3 : codeIn K cdv "law" = true) .. : ∃ t, My.Txt K t

set_option maxRecDepth 100000 in
set_option maxHeartbeats 0 in
theorem PySem.Challenge.cw_LID_holds : PySem.Challenge.rw_LID.Holds := by
  w_on; o_law; k_head; (case hw => w_witness2)
  k_fill
  refine L2.walk_of (l := PySem.Challenge.rw_LID) (n := 63) (k := 40) (x := "script") (CX := fun w => ..) (sp := fun _ => My.sp_law) rfl (by decide) rfl ⟨rfl, by decide, by decide⟩ (fun w h Y => PySem.W.kIn_of Y) ?F ?S ?C
  case F =>
    intro w mg fa h KX G hmg
    have T : ∃ t, My.Txt (L2.KOf KX) t := by
      dsimp only [L2.KOf]                          -- K must stand as «<heap const> w.params» for k_is
      refine' My.txt_mk ?e1 ?e2 ?e3 ..
      (case e1 => PySem.W.k_is)                    -- in the order: a name -> its address -> its object -> its parts
      (case e2 => PySem.W.k_is)
      ..
    obtain ⟨t, T⟩ := T
    have e0 := hmg.symm.trans (PySem.W.mg_of KX G T.law)
    cases e0                                       -- fa is the law's own address
    exact ⟨_, fun s u => .of_eq rfl, fun base kb nb => My.law_fn T kb nb⟩     -- if «.of_eq rfl» comes too early: refine' ⟨_, ?b, fun base kb nb => My.law_fn T kb nb⟩; exact fun s u => .of_eq rfl
  case S => exact fun w H a ns hl hO hS => ..
  case C => exact ..
(the tactic k_is has no namespace: write k_is) -/
/-! SHORT WORDS over the layer: a def of the text, its body, what a loop and a test want. -/
namespace L2
open PySem PySem.Spec PyProof.Rows
/-! ### the text by places -/
noncomputable def inClass (s : Stmt) (j : Nat) : Stmt := match s with
  | .ClassDef _ _ _ body _ _ _ _ _ _ _ => body.getD j (.Pass ⟨0, 0, 0, 0⟩)
  | _ => .Pass ⟨0, 0, 0, 0⟩
noncomputable def defArgs (s : Stmt) : Arguments := match s with
  | .FunctionDef _ a _ _ _ _ _ _ _ _ => a
  | _ => { posonlyargs := [], args := [], vararg := none, kwonlyargs := [], kw_defaults := [], kwarg := none, defaults := [] }
noncomputable def defBody (s : Stmt) : List Stmt := match s with
  | .FunctionDef _ _ b _ _ _ _ _ _ _ => b
  | _ => []
noncomputable def defScope (s : Stmt) : Scope := match s with
  | .FunctionDef _ _ _ _ _ _ sc _ _ _ => sc
  | _ => { kind := .function, names := [], isGenerator := false, isCoroutine := false }

/-! ### no exception leaves a def -/
noncomputable abbrev CX0 : CXT := fun _ _ _ _ _ _ => False
noncomputable abbrev E0 : St → XK := fun _ _ _ _ => False
/-! ### a def (or method) of the text as it stands behind the top -/
structure Fun (K : PySem.W.Frag) (x qual : Str) (st : Stmt) (f : Addr) (fd : FuncData) : Prop where
  ex : ∃ (oc : Value) (od : Option Addr) (kV doc pm : Value) (an : Option Addr) (cdv ct : Value) (osl : Array (Option Value)),
    fd = PySem.W.fnOf x qual (defArgs st) (defBody st) (defScope st) .none kV doc pm an cdv ct ∧ K.lookup f = some ⟨oc, od, .func fd, osl⟩ ∧ PySem.W.codeIn K cdv qual = true
  kp : PySem.W.keepIn K (.ref f) = true
section
variable {P : Program} {w : World} {K : PySem.W.Frag} {mg : Str → Option Value} {base : Heap}
theorem Fun.ok {x qual : Str} {st : Stmt} {f : Addr} {fd : FuncData} {N ps : List Str} {k : Nat} {sp : Sp} (F : Fun K x qual st f fd) (S : FnScope N ps (defScope st)) (len : ∀ vs H Q E, sp vs H Q E → vs.length = ps.length)
    (hbody : ∀ (cdv : Value) (A : Around) (outer : List Env) (s : Shared) (H : Hp) (vs : List V) (Q : VK) (E : XK), Room k (A.deeper (envOfC qual (defScope st) s.heap.objs.size f cdv)) → sp vs H Q E →
      ∃ t, PSs (cxOf CX0 P w K mg base N qual (defScope st) f cdv A outer s H E).nox (defBody st) t ∧ t { nx := fun _ H' => Q .non H', rt := Q } (start N vs) H) : FnOk P w K mg base CX0 (k + 1) f fd ps sp := by
  obtain ⟨oc, od, kV, doc, pm, an, cdv, ct, osl, rfl, lk, hcd⟩ := F.ex
  refine fn_of lk hcd S len fun A outer s H vs Q E hr hsp => ?_
  obtain ⟨t, h, q⟩ := hbody cdv A outer s H vs Q E hr hsp
  exact ⟨t, h.nox, q⟩
theorem Fun.binds {x qual : Str} {st : Stmt} {f : Addr} {fd : FuncData} {ps : List Str} (F : Fun K x qual st f fd)
    (h : ∀ (kV doc pm : Value) (an : Option Addr) (cdv ct : Value) (us : List Value), us.length = ps.length → bindArgs (PySem.W.fnOf x qual (defArgs st) (defBody st) (defScope st) .none kV doc pm an cdv ct) ⟨us, []⟩ = pure (ps.zip us)) : Binds K fd ps [] := by
  obtain ⟨oc, od, kV, doc, pm, an, cdv, ct, osl, rfl, lk, hcd⟩ := F.ex
  exact .all (h kV doc pm an cdv ct)
theorem fun_mk {x qual : Str} {st : Stmt} {f : Addr} {oc : Value} {od an : Option Addr} {osl : Array (Option Value)} {kV doc pm cdv ct : Value} (l : K.lookup f = some ⟨oc, od, .func (PySem.W.fnOf x qual (defArgs st) (defBody st) (defScope st) .none kV doc pm an cdv ct), osl⟩)
    (c : PySem.W.codeIn K cdv qual = true) (k : PySem.W.keepIn K (.ref f) = true) : Fun K x qual st f (PySem.W.fnOf x qual (defArgs st) (defBody st) (defScope st) .none kV doc pm an cdv ct) := ⟨⟨oc, od, kV, doc, pm, an, cdv, ct, osl, rfl, l, c⟩, k⟩
end
theorem hu_of {A : Around} {k : Nat} (hr : Room k A) : A.units + 1 < cLine := Nat.lt_of_le_of_lt (Nat.add_le_add_left (by decide : 1 ≤ 64) _) hr.units
theorem small1000 {n : Nat} (h : n ≤ 1000) : n < sizeLine := Nat.lt_of_le_of_lt h (by decide)

/-! ### expressions in short: the name that stands in the i-th slot -/
section
variable {X : Cx}
theorem pv (i : Nat) {x : Str} {pos : Pos} (hN : X.N[i]? = some x := by rfl) (hv : Vis X.env.scope x := by first | exact Or.inl rfl | exact Or.inr (Or.inl rfl) | exact Or.inr (Or.inr rfl)) (hd : (x == ("__debug__" : Str)) = false := by decide)
    (hcd : (x == ("__classdict__" : Str)) = false := by decide) : PE X (.Name x pos) (tVar i) := pe_var hN hv hd hcd
end
/-! ### tests -/
theorem iteF {A B : Prop} (h : B) : if false = true then A else B := by
  rw [if_neg Bool.false_ne_true]
  exact h
theorem iteT {A B : Prop} (h : A) : if true = true then A else B := by
  rw [if_pos rfl]
  exact h
theorem ite2 {c A B : Prop} [Decidable c] (h1 : c → A) (h2 : ¬ c → B) : if c then A else B := by
  by_cases h : c
  · rw [if_pos h]
    exact h1 h
  · rw [if_neg h]
    exact h2 h
/-! ### heaps -/
noncomputable def Same (H H' : Hp) : Prop := ∀ b o, H b = some o → H' b = some o
theorem Same.refl (H : Hp) : Same H H := fun _ _ h => h
theorem Same.trans {H H1 H2 : Hp} (a : Same H H1) (b : Same H1 H2) : Same H H2 := fun c o h => b c o (a c o h)
theorem Same.free {H H' : Hp} (e : Same H H') {l : Addr} (h : H' l = Option.none) : H l = Option.none := by
  cases q : H l with
  | none => rfl
  | some o =>
    rw [e l o q] at h
    cases h
end L2
-- MOD LayD
namespace L2
open PySem PySem.Spec PyProof.Rows
/-! ### lists of pairs as tables -/
section
variable {κ : Type} [DecidableEq κ]
noncomputable def valV (kvs : List (κ × V)) (k : κ) : Option V := (kvs.find? fun kv => decide (kv.1 = k)).map (·.2)
noncomputable def putK (kvs : List (κ × V)) (k : κ) (v : V) : List (κ × V) :=
  if (kvs.any fun kv => decide (kv.1 = k)) = true then kvs.map (fun kv => if kv.1 = k then (kv.1, v) else kv) else kvs ++ [(k, v)]
theorem valV_pos {p : κ × V} {r : List (κ × V)} {k : κ} (e : p.1 = k) : valV (p :: r) k = some p.2 := by simp [valV, List.find?_cons, e]
theorem valV_neg {p : κ × V} {r : List (κ × V)} {k : κ} (e : ¬ p.1 = k) : valV (p :: r) k = valV r k := by simp [valV, List.find?_cons, e]
theorem valV_any (k : κ) : ∀ kvs : List (κ × V), (kvs.any fun kv => decide (kv.1 = k)) = (valV kvs k).isSome
  | [] => rfl
  | p :: r => by
    rw [List.any_cons]
    by_cases e : p.1 = k
    · simp only [valV_pos e, decide_eq_true e, Bool.true_or, Option.isSome_some]
    · rw [valV_neg e, decide_eq_false e, Bool.false_or]; exact valV_any k r
theorem length_putK (kvs : List (κ × V)) (k : κ) (v : V) : (putK kvs k v).length ≤ kvs.length + 1 := by
  unfold putK
  split
  · rw [List.length_map]; omega
  · rw [List.length_append, List.length_cons, List.length_nil]; omega
theorem RelO.isSome_eq {o : Option V} {u : Option Value} (r : RelO o u) : o.isSome = u.isSome := by
  cases o with
  | none => cases u with
    | none => rfl
    | some _ => exact (show False from r).elim
  | some _ => cases u with
    | none => exact (show False from r).elim
    | some _ => rfl
theorem KV.val {kvs : List (κ × V)} {vs : List (κ × Value)} (r : KV kvs vs) (k : κ) : RelO (valV kvs k) (valueAt vs k) := by
  unfold KV at r
  induction r with
  | nil => exact True.intro
  | @cons p q ps qs h t ih =>
    obtain ⟨h1, h2⟩ := h
    by_cases e : p.1 = k
    · have e' : q.1 = k := h1.symm.trans e
      have b : valueAt (q :: qs) k = some q.2 := by simp [valueAt, List.find?_cons, e']
      rw [valV_pos e, b]; exact h2
    · have e' : ¬ q.1 = k := fun z => e (h1.trans z)
      have b : valueAt (q :: qs) k = valueAt qs k := by simp [valueAt, List.find?_cons, e']
      rw [valV_neg e, b]; exact ih
theorem KV.any {kvs : List (κ × V)} {vs : List (κ × Value)} (r : KV kvs vs) (k : κ) : (kvs.any fun kv => decide (kv.1 = k)) = vs.any fun kv => decide (kv.1 = k) := by
  unfold KV at r
  induction r with
  | nil => rfl
  | cons h t ih => rw [List.any_cons, List.any_cons, ih, h.1]
theorem KV.repl {kvs : List (κ × V)} {vs : List (κ × Value)} (r : KV kvs vs) (k : κ) {y : V} {u : Value} (ry : RelV y u) :
    KV (kvs.map fun kv => if kv.1 = k then (kv.1, y) else kv) (vs.map fun kv => if kv.1 = k then (kv.1, u) else kv) := by
  unfold KV at r ⊢
  induction r with
  | nil => exact .nil
  | @cons p q ps qs h t ih =>
    rw [List.map_cons, List.map_cons]
    refine .cons ?_ ih
    obtain ⟨h1, h2⟩ := h
    by_cases e : p.1 = k
    · rw [if_pos e, if_pos (h1.symm.trans e)]; exact ⟨h1, ry⟩
    · rw [if_neg e, if_neg (fun z => e (h1.trans z))]; exact ⟨h1, h2⟩
theorem KV.put {kvs : List (κ × V)} {vs : List (κ × Value)} (r : KV kvs vs) (k : κ) {y : V} {u : Value} (ry : RelV y u) : KV (putK kvs k y) (stored vs k u) := by
  unfold putK stored
  rw [r.any k]
  by_cases e : (vs.any fun kv => decide (kv.1 = k)) = true
  · rw [if_pos e, if_pos e]; exact r.repl k ry
  · rw [if_neg e, if_neg e]; exact Paired.snoc r ⟨rfl, ry⟩
theorem KV.length {kvs : List (κ × V)} {vs : List (κ × Value)} (r : KV kvs vs) : kvs.length = vs.length := Paired.length r
end
/-! ### a tracked dict, its keys ints and texts or tuples of these -/
theorem kV_is {P : Program} {w : World} {k : Key} {u : Value} (r : RelV (kV k) u) : (mixKind P w).is k u = true := by
  cases k with
  | inl i => obtain ⟨t, e⟩ := (show ∃ t, u = Value.int i t from r); subst e; exact mixKind_int P w i t
  | inr x => obtain ⟨t, e⟩ := (show ∃ t, u = Value.str x t from r); subst e; exact mixKind_str P w x t
theorem items_are {P : Program} {w : World} : ∀ {ks : List Key} {us : List Value}, Vals (ks.map kV) us → ItemsAre (mixKind P w) ks us
  | [], _, r => by rw [List.map_nil] at r; cases r; exact .nil
  | k :: ks, _, r => by
    rw [List.map_cons] at r
    cases r with
    | cons h t => exact .cons (kV_is h) (items_are t)

noncomputable abbrev KT (H : Hp) : List (List Key × V) → List (List Key × Addr × Value) → Prop := Paired fun p q => p.1 = q.1 ∧ H q.2.1 = some (.tup (p.1.map kV)) ∧ RelV p.2 q.2.2
theorem KT.val {H : Hp} {kvs : List (List Key × V)} {xs : List (List Key × Addr × Value)} (r : KT H kvs xs) (k : List Key) : RelO (valV kvs k) ((atKey xs k).map (·.2)) := by
  induction r with
  | nil => exact True.intro
  | @cons p q ps qs h t ih =>
    obtain ⟨h1, _, h2⟩ := h
    by_cases e : p.1 = k
    · have e' : q.1 = k := h1.symm.trans e
      have b : atKey (q :: qs) k = some q.2 := by simp [atKey, List.find?_cons, e']
      rw [valV_pos e, b]; exact h2
    · have e' : ¬ q.1 = k := fun z => e (h1.trans z)
      have b : atKey (q :: qs) k = atKey qs k := by simp [atKey, List.find?_cons, e']
      rw [valV_neg e, b]; exact ih
theorem KT.repl {H : Hp} {kvs : List (List Key × V)} {xs : List (List Key × Addr × Value)} (r : KT H kvs xs) (k : List Key) {y : V} {u : Value} (ry : RelV y u) :
    KT H (kvs.map fun kv => if kv.1 = k then (kv.1, y) else kv) (xs.map (putAt k u)) := by
  induction r with
  | nil => exact .nil
  | @cons p q ps qs h t ih =>
    rw [List.map_cons, List.map_cons]
    refine .cons ?_ ih
    obtain ⟨h1, h2, h3⟩ := h
    unfold putAt
    by_cases e : p.1 = k
    · rw [if_pos e, if_pos (h1.symm.trans e)]; exact ⟨h1, h2, ry⟩
    · rw [if_neg e, if_neg (fun z => e (h1.trans z))]; exact ⟨h1, h2, h3⟩
theorem KT.put {H : Hp} {kvs : List (List Key × V)} {xs : List (List Key × Addr × Value)} (r : KT H kvs xs) (k : List Key) {b : Addr} {y : V} {u : Value} (hb : H b = some (.tup (k.map kV))) (ry : RelV y u) :
    KT H (putK kvs k y) (storedH xs k b u) := by
  have e : (kvs.any fun kv => decide (kv.1 = k)) = (atKey xs k).isSome := by
    rw [valV_any, (r.val k).isSome_eq, Option.isSome_map]
  unfold putK storedH
  rw [e]
  by_cases q : (atKey xs k).isSome = true
  · rw [if_pos q, if_pos q]; exact r.repl k ry
  · rw [if_neg q, if_neg q]; exact Paired.snoc r ⟨rfl, hb, ry⟩
theorem KT.keeps {H H' : Hp} {kvs : List (List Key × V)} {xs : List (List Key × Addr × Value)} (r : KT H kvs xs) (ht : ∀ b ys, H b = some (.tup ys) → H' b = some (.tup ys)) : KT H' kvs xs :=
  Paired.mapP r fun _ _ z => ⟨z.1, ht _ _ z.2.1, z.2.2⟩

section
variable {P : Program} {w : World} {H : Hp} {h : Heap} {a : Addr}
theorem rd_of {u : HO} (ok : HOk P w H h) (e : Rd H a u) : ObjOk P w H h a u := e.ok ok
theorem dk_rd {kvs : List (Key × V)} (ok : HOk P w H h) (e : Rd H a (.dK kvs)) : kvs.length ≤ sizeLine ∧ (a == sysModules) = false ∧ ∃ vs, KV kvs vs ∧ h.DictOf (mixKind P w) a vs :=
  show ObjOk P w H h a (.dK kvs) from rd_of ok e
theorem dk_of {kvs : List (Key × V)} (ok : HOk P w H h) (e : H a = some (.dK kvs)) : kvs.length ≤ sizeLine ∧ (a == sysModules) = false ∧ ∃ vs, KV kvs vs ∧ h.DictOf (mixKind P w) a vs := dk_rd ok (.inl e)
theorem key_of {ks : List Key} (ok : HOk P w H h) (e : H a = some (.tup (ks.map kV))) : (tupleKind (mixKind P w)).is h ks a := by
  obtain ⟨_, its, r, o, h1, h2, n, h3⟩ := (show ObjOk P w H h a (.tup (ks.map kV)) from ok a _ e)
  exact ⟨o, its.toArray, n, h1, h2, h3, by simpa using items_are r⟩
theorem dt_rd {kvs : List (List Key × V)} (ok : HOk P w H h) (e : Rd H a (.dT kvs)) : kvs.length ≤ sizeLine ∧ (a == sysModules) = false ∧
    ∃ xs, KT H kvs xs ∧ h.DictOfH (tupleKind (mixKind P w)) a xs := by
  obtain ⟨z, y, xs, r, o, es, ep, h1, h2, h3, h4, h5⟩ := (show ObjOk P w H h a (.dT kvs) from rd_of ok e)
  refine ⟨z, y, xs, r, o, es, ep, h1, h2, h3, h4, fun x hx => ?_, h5⟩
  have all : ∀ {l : List (List Key × V)} {m : List (List Key × Addr × Value)}, KT H l m → ∀ x ∈ m, (tupleKind (mixKind P w)).is h x.1 x.2.1 := by
    intro l m q
    induction q with
    | nil => intro x hx; exact nomatch hx
    | @cons p q ps qs hq t ih =>
      intro x hx
      rcases List.mem_cons.mp hx with e | hx
      · subst e
        exact key_of ok (by rw [← hq.1]; exact hq.2.1)
      · exact ih x hx
  exact all r x hx
theorem dt_of {kvs : List (List Key × V)} (ok : HOk P w H h) (e : H a = some (.dT kvs)) : kvs.length ≤ sizeLine ∧ (a == sysModules) = false ∧
    ∃ xs, KT H kvs xs ∧ h.DictOfH (tupleKind (mixKind P w)) a xs := dt_rd ok (.inl e)
end
noncomputable def DGet (H : Hp) (a : Addr) (y : V) (r : Option V) : Prop :=
  (∃ kvs k, Rd H a (.dK kvs) ∧ y = kV k ∧ r = valV kvs k) ∨ ∃ kvs k b, Rd H a (.dT kvs) ∧ y = .ref b ∧ H b = some (.tup (k.map kV)) ∧ r = valV kvs k
noncomputable def DPut (H : Hp) (a : Addr) (y v : V) (H' : Hp) : Prop :=
  (∃ kvs k, H a = some (.dK kvs) ∧ y = kV k ∧ kvs.length < sizeLine ∧ H' = upd H a (.dK (putK kvs k v))) ∨
  ∃ kvs k b, H a = some (.dT kvs) ∧ y = .ref b ∧ H b = some (.tup (k.map kV)) ∧ kvs.length < sizeLine ∧ H' = upd H a (.dT (putK kvs k v))
theorem DGet.k {H : Hp} {a : Addr} {kvs : List (Key × V)} {k : Key} (e : H a = some (.dK kvs)) : DGet H a (kV k) (valV kvs k) := .inl ⟨kvs, k, .inl e, rfl, rfl⟩
theorem DGet.t {H : Hp} {a b : Addr} {kvs : List (List Key × V)} {k : List Key} (e : H a = some (.dT kvs)) (eb : H b = some (.tup (k.map kV))) : DGet H a (.ref b) (valV kvs k) := .inr ⟨kvs, k, b, .inl e, rfl, eb, rfl⟩
theorem DPut.k {H : Hp} {a : Addr} {kvs : List (Key × V)} {k : Key} {v : V} (e : H a = some (.dK kvs)) (hl : kvs.length < sizeLine) : DPut H a (kV k) v (upd H a (.dK (putK kvs k v))) := .inl ⟨kvs, k, e, rfl, hl, rfl⟩
theorem DPut.t {H : Hp} {a b : Addr} {kvs : List (List Key × V)} {k : List Key} {v : V} (e : H a = some (.dT kvs)) (eb : H b = some (.tup (k.map kV))) (hl : kvs.length < sizeLine) :
    DPut H a (.ref b) v (upd H a (.dT (putK kvs k v))) := .inr ⟨kvs, k, b, e, rfl, eb, hl, rfl⟩


section
variable {X : Cx} {pins : List (Addr × Obj)} {σ : St} {H : Hp} {s : Shared} {a : Addr} {y v : V} {u r : Value} {o : Option V} {A : Around} {E : Value → Shared → Prop}
theorem Inv.big (I : Inv X pins σ H s) : sysModules < s.heap.objs.size := by
  have h : mainGlobals < s.heap.objs.size := (I.mod.glob.keeps I.bk).lt
  exact Nat.lt_trans (by decide) h

theorem d_getItem {Q : Value → Shared → Prop} (hu : A.units + 1 < cLine) (I : Inv X pins σ H s) (g : DGet H a y (some v)) (ry : RelV y u) (h : ∀ w' s', Inv X pins σ H s' → RelV v w' → Q w' s') :
    wpAny (model X.prog X.w) A (getItem (.ref a) u) Q E s := by
  rcases g with ⟨kvs, k, e, ey, l⟩ | ⟨kvs, k, b, e, ey, eb, l⟩
  · subst ey
    obtain ⟨z, hd, vs, rel, dd⟩ := dk_rd I.hok e
    obtain ⟨w', hw, rw'⟩ := RelO.some_of (v := v) (o := valueAt vs k) (by rw [l]; exact rel.val k)
    exact wpAny_getItem_of (kV_is ry) dd.mapOf hw (h w' _ (I.tok _) rw')
  · subst ey
    cases (show u = Value.ref b from ry)
    obtain ⟨z, hd, xs, rel, dd⟩ := dt_rd I.hok e
    obtain ⟨w', hw, rw'⟩ := RelO.some_of (v := v) (o := (atKey xs k).map (·.2)) (by rw [l]; exact rel.val k)
    obtain ⟨p, hp, hp2⟩ := Option.map_eq_some_iff.mp hw
    refine wpAny_getItem_heap (tupleKind_room_in1 hu) (key_of I.hok eb) dd hp ?_
    rw [hp2]
    exact h w' _ (I.tok _) rw'
theorem d_in {Q : Value → Shared → Prop} (hu : A.units + 1 < cLine) (I : Inv X pins σ H s) (g : DGet H a y o) (ry : RelV y u) (h : ∀ s', Inv X pins σ H s' → Q (.bool o.isSome) s') :
    wpAny (model X.prog X.w) A (compareOp .In u (.ref a)) Q E s := by
  rcases g with ⟨kvs, k, e, ey, l⟩ | ⟨kvs, k, b, e, ey, eb, l⟩
  · subst ey
    obtain ⟨z, hd, vs, rel, dd⟩ := dk_rd I.hok e
    refine wpAny_in_of (kV_is ry) hd dd.mapOf ?_
    rw [← (rel.val k).isSome_eq, ← l]
    exact h _ (I.tok _)
  · subst ey
    cases (show u = Value.ref b from ry)
    obtain ⟨z, hd, xs, rel, dd⟩ := dt_rd I.hok e
    refine wpAny_in_heap (tupleKind_room_in1 hu) (key_of I.hok eb) hd dd ?_
    have q := (rel.val k).isSome_eq
    rw [Option.isSome_map] at q
    rw [← q, ← l]
    exact h _ (I.tok _)
theorem d_notIn {Q : Value → Shared → Prop} (hu : A.units + 1 < cLine) (I : Inv X pins σ H s) (g : DGet H a y o) (ry : RelV y u) (h : ∀ s', Inv X pins σ H s' → Q (.bool (!o.isSome)) s') :
    wpAny (model X.prog X.w) A (compareOp .NotIn u (.ref a)) Q E s := by
  rcases g with ⟨kvs, k, e, ey, l⟩ | ⟨kvs, k, b, e, ey, eb, l⟩
  · subst ey
    obtain ⟨z, hd, vs, rel, dd⟩ := dk_rd I.hok e
    refine wpAny_notIn_of (kV_is ry) hd dd.mapOf ?_
    rw [← (rel.val k).isSome_eq, ← l]
    exact h _ (I.tok _)
  · subst ey
    cases (show u = Value.ref b from ry)
    obtain ⟨z, hd, xs, rel, dd⟩ := dt_rd I.hok e
    refine wpAny_notIn_heap (tupleKind_room_in1 hu) (key_of I.hok eb) hd dd ?_
    have q := (rel.val k).isSome_eq
    rw [Option.isSome_map] at q
    rw [← q, ← l]
    exact h _ (I.tok _)
theorem d_write {h' : Heap} {t' : Nat} {ob : HO} (I : Inv X pins σ H s) (mu : Mut (H a)) (hs : Heap.SameBut a s.heap h') (he : ∃ q, h'.get? a = some q) (new : ObjOk X.prog X.w (upd H a ob) h' a ob) :
    Inv X pins σ (upd H a ob) { s with heap := h', toks := t' } :=
  I.write (x := a) (e := a) mu (.inl rfl) (fun b q hb z => (hs.2 b hb).trans z) he new
theorem dk_new {P : Program} {w : World} {H' : Hp} {h' : Heap} {kvs : List (Key × V)} {vs : List (Key × Value)} (z : kvs.length ≤ sizeLine) (hd : (a == sysModules) = false) (rel : KV kvs vs) (dd : h'.DictOf (mixKind P w) a vs) :
    ObjOk P w H' h' a (.dK kvs) := ⟨z, hd, vs, rel, dd⟩
theorem d_setItem {H' : Hp} {Q : Unit → Shared → Prop} (hu : A.units + 1 < cLine) (I : Inv X pins σ H s) (g : DPut H a y v H') (ry : RelV y u) (rv : RelV v r) (h : ∀ s', Inv X pins σ H' s' → Q () s') :
    wpAny (model X.prog X.w) A (setItem (.ref a) u r) Q E s := by
  rcases g with ⟨kvs, k, e, ey, l, eH⟩ | ⟨kvs, k, b, e, ey, eb, l, eH⟩
  · subst ey eH
    obtain ⟨z, hd, vs, rel, dd⟩ := dk_of I.hok e
    have hz : vs.length ≤ sizeLine := by rw [← rel.length]; exact z
    have hl : (putK kvs k v).length ≤ sizeLine := by have := length_putK kvs k v; omega
    refine wpAny_setItem_pairs (hsz := hz) (kV_is ry) dd fun h' dd' hs => h _ ?_
    have he : ∃ q, h'.get? a = some q := let ⟨q, _, _, hq, _⟩ := dd'; ⟨q, hq⟩
    exact d_write I (by rw [e]; exact True.intro) hs he (dk_new hl hd (rel.put k rv) dd')
  · subst ey eH
    cases (show u = Value.ref b from ry)
    obtain ⟨z, hd, xs, rel, dd⟩ := dt_of I.hok e
    have hz : xs.length ≤ sizeLine := by rw [← Paired.length rel]; exact z
    have hl : (putK kvs k v).length ≤ sizeLine := by have := length_putK kvs k v; omega
    refine wpAny_setItem_heap (hsz := hz) (tupleKind_room_in1 hu) (key_of I.hok eb) dd fun h' dd' hs => h _ ?_
    obtain ⟨q, es, ep, hq, h2, h3, h4, _, h5⟩ := dd'
    refine d_write I (by rw [e]; exact True.intro) hs ⟨q, hq⟩ ⟨hl, hd, _, (rel.put k eb rv).keeps fun c ys ec => ?_, q, es, ep, hq, h2, h3, h4, h5⟩
    rw [upd_ne (ne_of ec e (fun z => nomatch z))]
    exact ec
end
section
variable {X : Cx} {pins : List (Addr × Obj)} {σ : St} {H : Hp} {s : Shared} {a : Addr} {kvs : List (Key × V)} {k : Key} {u : Value} {A : Around} {E : Value → Shared → Prop}
theorem d_len {Q : Value → Shared → Prop} (I : Inv X pins σ H s) (e : Rd H a (.dK kvs)) (h : ∀ t s', Inv X pins σ H s' → Q (.int kvs.length t) s') : wpAny (model X.prog X.w) A (call (.builtin "len") [.ref a]) Q E s := by
  obtain ⟨z, hd, vs, rel, dd⟩ := dk_rd I.hok e
  refine call_len_dict hd dd (by rw [← rel.length]; rw [sizeLine_eq] at z; omega) ?_
  rw [← rel.length]
  exact h _ _ (I.tok _)
end
/-! ### readings and rules -/
noncomputable def NoSl (i : Expr) : Prop := ∀ ov iv, subscripted i false ov iv = operate [ov, iv] (getItem ov iv)
theorem subD_of {prog : Program} {w : World} {A : Around} {E : Value → Shared → Prop} {s : Shared} {env : Env} {value slice : Expr} {pos : Pos} {T id : String} {Q : Value → Shared → Prop}
    (hl : typeLookup (.type T) "__getitem__" = pure (some (.builtin id))) (hs : NoSl slice)
    (h : wpAny (model prog w) A (eval value env) (fun o s₁ => wpAny (model prog w) A (eval slice env) (fun i s₂ => s₂.TypeIs o T ∧ wpAny (model prog w) A (getItem o i) Q E s₂) E s₁) E s) :
    wpAny (model prog w) A (eval (.Subscript value slice pos) env) Q E s := by
  refine Subscript_ (wpAny_mono h (fun o s₁ h₁ => wpAny_mono h₁ (fun i s₂ h₂ => ?_) fun _ _ x => x) fun _ _ x => x)
  obtain ⟨hT, h₂⟩ := h₂
  unfold subscriptTail
  refine wpAny_bind ?_
  rw [getitemInPython_of_ne hT.not_modules]
  refine wpAny_bind (wpAny_specialOf hT hl ?_)
  have fin : wpAny (model prog w) A (subscripted slice false o i) (fun r s₃ => wpAny (model prog w) A (letTemporaryGo value o r >>= fun _ => pure r) Q E s₃) E s₂ := by
    rw [hs o i]
    exact wpAny_operating (wpAny_mono h₂ (fun r s₃ h₃ => wpAny_bind (wpAny_letTemporaryGo (wpAny_pure h₃))) fun _ _ x => x)
  first
    | exact wpAny_pure (wpAny_bind fin)
    | exact wpAny_bind (wpAny_pure (wpAny_bind fin))
    | exact wpAny_bind fin

theorem dict_typeIs {X : Cx} {pins : List (Addr × Obj)} {σ : St} {H : Hp} {s : Shared} {a : Addr} {y : V} {o : Option V} (I : Inv X pins σ H s) (g : DGet H a y o) : s.TypeIs (.ref a) "dict" := by
  rcases g with ⟨kvs, k, e, _, _⟩ | ⟨kvs, k, b, e, _, _, _⟩
  · obtain ⟨_, _, vs, _, dd⟩ := dk_rd I.hok e
    exact dd.typeIs
  · obtain ⟨_, _, xs, _, dd⟩ := dt_rd I.hok e
    exact dd.typeIs
noncomputable def tDGet (td ty : TE) : TE := fun σ H Q => td σ H fun x H1 => ty σ H1 fun y H2 => ∃ a v, x = .ref a ∧ DGet H2 a y (some v) ∧ Q v H2
noncomputable def tDIn (ty td : TE) : TE := fun σ H Q => ty σ H fun y H1 => td σ H1 fun x H2 => ∃ a o, x = .ref a ∧ DGet H2 a y o ∧ Q (.bl o.isSome) H2
noncomputable def tDNotIn (ty td : TE) : TE := fun σ H Q => ty σ H fun y H1 => td σ H1 fun x H2 => ∃ a o, x = .ref a ∧ DGet H2 a y o ∧ Q (.bl (!o.isSome)) H2
noncomputable def sDPut (td ty tv : TE) : TS := fun D σ H => tv σ H fun v H1 => td σ H1 fun x H2 => ty σ H2 fun y H3 => ∃ a H4, x = .ref a ∧ DPut H3 a y v H4 ∧ D.nx σ H4
section
variable {X : Cx} {o i e value : Expr} {pos pos' tpos : Pos} {td ty tv : TE}
theorem pe_dget (hu : X.A.units + 1 < cLine) (ho : PE X o td) (hi : PE X i ty) (hs : NoSl i) : PE X (.Subscript o i pos) (tDGet td ty) := by
  intro pins s σ H Q I h
  refine subD_of PySem.F.slot_dict_getitem.lookup hs (thn (ho pins s σ H _ I h) fun u s1 ⟨x, H1, I1, rx, q1⟩ => thn (hi pins s1 σ H1 _ I1 q1) fun iv s2 ⟨y, H2, I2, ry, a, v, ex, g, q2⟩ => ?_)
  subst ex
  obtain rfl : u = Value.ref a := rx
  exact ⟨dict_typeIs I2 g, d_getItem hu I2 g ry fun w' s3 I3 rw' => ⟨v, H2, I3, rw', q2⟩⟩
theorem pc_din (hu : X.A.units + 1 < cLine) (hi : PE X i ty) (ho : PE X o td) : PC X .In i o (tDIn ty td) := by
  intro pins s σ H Q I h
  refine thn (hi pins s σ H _ I h) fun iv s1 ⟨y, H1, I1, ry, q1⟩ => thn (ho pins s1 σ H1 _ I1 q1) fun u s2 ⟨x, H2, I2, rx, a, ov, ex, g, q2⟩ => ?_
  subst ex
  obtain rfl : u = Value.ref a := rx
  exact d_in hu I2 g ry fun s3 I3 => ⟨.bl ov.isSome, H2, I3, rfl, q2⟩
theorem pc_dnotin (hu : X.A.units + 1 < cLine) (hi : PE X i ty) (ho : PE X o td) : PC X .NotIn i o (tDNotIn ty td) := by
  intro pins s σ H Q I h
  refine thn (hi pins s σ H _ I h) fun iv s1 ⟨y, H1, I1, ry, q1⟩ => thn (ho pins s1 σ H1 _ I1 q1) fun u s2 ⟨x, H2, I2, rx, a, ov, ex, g, q2⟩ => ?_
  subst ex
  obtain rfl : u = Value.ref a := rx
  exact d_notIn hu I2 g ry fun s3 I3 => ⟨.bl (!ov.isSome), H2, I3, rfl, q2⟩
theorem ps_dput (hu : X.A.units + 1 < cLine) (ho : PE X o td) (hi : PE X i ty) (hv : PE X value tv) (hs : swapsWith value (some (.Subscript o i pos')) pos.line X.env = pure false) :
    PS X (.Assign [.Subscript o i pos'] value pos) (sDPut td ty tv) := by
  intro pins s σ H D I h
  refine wpAny_Assign_Subscript (thn (hv pins s σ H _ I h) fun r s1 ⟨v, H1, I1, rv, q1⟩ => thn (ho pins s1 σ H1 _ I1 q1) fun u s2 ⟨x, H2, I2, rx, q2⟩ => thn (hi pins s2 σ H2 _ I2 q2) fun iv s3 ⟨y, H3, I3, ry, a, H4, ex, g, q3⟩ => ?_) hs
  subst ex
  obtain rfl : u = Value.ref a := rx
  exact d_setItem hu I3 g ry rv fun s4 I4 => ⟨σ, H4, I4, q3⟩
end
/-! ### displays -/
theorem dk_empty {P : Program} {w : World} {H : Hp} (h : Heap) (hb : sysModules < h.objs.size) : ObjOk P w H (h.push { cls := .type "dict", data := .dict #[] }) h.objs.size (.dK []) :=
  ⟨Nat.zero_le _, beq_eq_false_iff_ne.mpr (Ne.symm (Nat.ne_of_lt hb)), [], .nil, Heap.DictOf.new h⟩
noncomputable def tDNewK : TE := fun _ H Q => ∀ p, H p = none → Q (.ref p) (upd H p (.dK []))
section
variable {X : Cx} {pos : Pos}
theorem pe_dnewK : PE X (.Dict [] [] pos) tDNewK := fun pins s σ H Q I h =>
  wpAny_Dict_empty ⟨.ref s.heap.objs.size, _, I.laid (a := s.heap.objs.size) (o := .dK []) (t' := s.toks) (fun _ _ q => Heap.get?_push_of_some _ q) (Nat.le_refl _) (dk_empty s.heap I.big), rfl, h _ (I.hok.fresh (Nat.le_refl _))⟩
end
/-! ### methods -/
section
variable {X : Cx} {pins : List (Addr × Obj)} {σ : St} {H : Hp} {s : Shared} {a : Addr} {y d : V} {u r : Value} {o : Option V} {A : Around} {E : Value → Shared → Prop}
end
section
variable {X : Cx} {o e f : Expr} {apos cpos : Pos} {td ty tx : TE}
end
/-! ### dict(d): a copy -/
section
variable {X : Cx} {pins : List (Addr × Obj)} {σ : St} {H : Hp} {s : Shared} {a : Addr} {kvs : List (Key × V)} {A : Around} {E : Value → Shared → Prop}
end
section
variable {X : Cx} {pins : List (Addr × Obj)} {σ : St} {H : Hp} {s : Shared} {a : Addr} {y : V} {u : Value} {A : Around} {E : Value → Shared → Prop}
end
end L2
-- MOD Cmp
/-! Comprehensions over one clause, for the hand layer. -/
namespace L2
open PySem PySem.Spec PyProof.Rows
noncomputable def PFs (X : Cx) (ifs : List Expr) (t : TT) : Prop :=
  ∀ (pins : List (Addr × Obj)) (s : Shared) (σ : St) (H : Hp) (Q : Bool → Hp → Prop), Inv X pins σ H s → t σ H Q →
    wpAny (model X.prog X.w) X.A (forIn ifs true fun c r => if r = true then do let ok ← isTrue c X.env (eval c X.env); pure (ForInStep.yield ok) else pure (ForInStep.yield r)) (TP X pins σ Q) X.xe s
noncomputable def tYes : TT := fun _ H Q => Q true H
theorem pf_nil {X : Cx} : PFs X [] tYes := fun _ _ _ H _ I h => wpAny_tests_nil ⟨H, I, h⟩
theorem pf_one {X : Cx} {c : Expr} {t : TT} (h : PT X c t) : PFs X [c] t := fun pins s σ H Q I q => wpAny_tests_one (h pins s σ H Q I q)

section
variable {prog : Program} {w : World} {A : Around} {R : Result → Shared → Prop}
theorem comp_loop {elt tg iter : Expr} {ifs : List Expr} {sc : Scope} {pos : Pos} {it acc : Value} {env : Env} (J : Nat → Shared → Prop) (N : Value → Shared → Prop)
    (hN : N = notedBy (model prog w) A env fun e z => R (.error e) z)
    (turn : ∀ k z, J k z → wpAny (model prog w) A (pyNext it) (fun r z1 => match r with
      | none => R (.ok .next) z1
      | some v => wpAny (model prog w) A (letOwnedTupleGo tg it v) (fun _ z2 => wpAny (model prog w) A (assign tg env v) (fun _ z3 =>
          wpAny (model prog w) A (forIn ifs true fun c r => if r = true then do let ok ← isTrue c env (eval c env); pure (ForInStep.yield ok) else pure (ForInStep.yield r)) (fun ok z4 =>
            if ok = true then wpAny (model prog w) A (eval elt env) (fun y z5 => wpAny (model prog w) A (call (.builtin "list.append") [acc, y]) (fun _ z6 => ∃ j, j < k ∧ J j z6) N z5) N z4
            else ∃ j, j < k ∧ J j z4) N z3) N z2) N z1) N z)
    {z : Shared} (k : Nat) (h : J k z) : codeAny (model prog w) A (.compLoop (.ListComp elt [⟨tg, iter, ifs, 0⟩] sc pos) 0 it acc env) R z := by
  subst hN
  refine codeAny_loop rfl J (fun k z hJ => ?_) k h
  show wpAny _ A ((compTurn (.ListComp elt [⟨tg, iter, ifs, 0⟩] sc pos) 0 it acc env).onRaise (fun x => do noteFrame x env; theTreesLotGoes x)) _ _ z
  refine wpAny_noted ?_
  rw [compTurn_list]
  refine wpAny_bind (wpAny_standAt (wpAny_bind (thn (turn k z hJ) fun r z1 h1 => ?_)))
  cases r with
  | none => exact wpAny_pure h1
  | some v =>
    refine wpAny_bind (thn h1 fun _ z2 h2 => ?_)
    refine wpAny_bind (thn h2 fun _ z3 h3 => ?_)
    refine wpAny_bind (thn h3 fun ok z4 h4 => ?_)
    cases ok with
    | false => exact wpAny_pure ⟨rfl, h4⟩
    | true => exact wpAny_bind (wpAny_bind (thn h4 fun y z5 h5 => wpAny_bind (thn h5 fun _ z6 h6 => wpAny_pure (wpAny_pure ⟨rfl, h6⟩))))
end
noncomputable def cxComp (X : Cx) (sc : Scope) (cl : List (Str × Addr)) (T : List Str) (C : Addr) (s2 : Shared) (H2 : Hp) (fp : List Addr) : Cx where
  prog := X.prog
  w := X.w
  K := X.K
  mg := X.mg
  base := X.base
  A := X.A
  N := X.N ++ T
  s₀ := s2
  H₀ := H2
  env := compEnvC sc cl C X.env
  outer := X.stack
  stack := X.stack
  ex := fp
  fn := fun _ => false
  calm := X.calm
  pn := []
  xe := fun _ _ => False

noncomputable def ClOk (X : Cx) : List (Str × Addr) → Prop
  | [] => True
  | p :: r => X.env.cells.lookup p.1 = some p.2 ∧ ClOk X r
theorem ClOk.look {X : Cx} : ∀ {cl : List (Str × Addr)}, ClOk X cl → ∀ x c, cl.lookup x = some c → X.env.cells.lookup x = some c
  | [], _, _, _, h => by cases h
  | p :: r, k, x, c, h => by
    cases e : x == p.1 with
    | true =>
      rw [List.lookup_cons, e] at h
      have ex : x = p.1 := by simpa using e
      rw [ex, k.1]
      exact h
    | false =>
      rw [List.lookup_cons, e] at h
      exact ClOk.look k.2 x c h

structure ScOk (X : Cx) (sc : Scope) (cl : List (Str × Addr)) (T : List Str) : Prop where
  clos : closureFor sc X.env = pure cl
  cell : ∀ y ∈ sc.names, y.2 ≠ .cell
  kind : sc.kind = .function
  names : ∀ x ∈ sc.names, x.2 = .local → sc.names.lookup x.1 = some .local
  cls : ClOk X cl
  has : ∀ x ∈ sc.names, x.2 = .free → (cl.lookup x.1).isSome = true ∧ (X.env.scope.names.lookup x.1 = some .cell ∨ X.env.scope.names.lookup x.1 = some .free)
  out : ∀ x ∈ X.N, sc.names.lookup x ≠ some .local

theorem relab_look {sc : Scope} {env : Env} {x : Str} {k : NameKind} : ∀ {names : List (Str × NameKind)},
    (names.map fun (n, k) => if (k == NameKind.free && env.scope.kind == .function && env.kindOf n == some .cell) then (n, NameKind.cell) else (n, k)).lookup x = some k →
    ∃ j, (x, j) ∈ names ∧ names.lookup x = some j ∧ (j = k ∨ (j = .free ∧ k = .cell))
  | [], h => by cases h
  | (n, j) :: r, h => by
    cases e : x == n with
    | true =>
      have ex : x = n := by simpa using e
      subst ex
      refine ⟨j, List.mem_cons_self, by rw [List.lookup_cons, e], ?_⟩
      have h' : List.lookup x ((if (j == NameKind.free && env.scope.kind == .function && env.kindOf x == some .cell) = true then (x, NameKind.cell) else (x, j)) :: _) = some k := h
      by_cases c : (j == NameKind.free && env.scope.kind == .function && env.kindOf x == some .cell) = true
      · rw [if_pos c, List.lookup_cons, e] at h'
        have c1 : (j == NameKind.free) = true := by
          cases q : (j == NameKind.free) with
          | true => rfl
          | false => rw [q] at c; simp at c
        exact .inr ⟨by simpa using c1, (Option.some.inj h').symm⟩
      · rw [if_neg c, List.lookup_cons, e] at h'
        exact .inl (Option.some.inj h')
    | false =>
      have h' : List.lookup x ((if (j == NameKind.free && env.scope.kind == .function && env.kindOf n == some .cell) = true then (n, NameKind.cell) else (n, j)) :: _) = some k := h
      have h2 : (List.map (fun (n, k) => if (k == NameKind.free && env.scope.kind == .function && env.kindOf n == some .cell) then (n, NameKind.cell) else (n, k)) r).lookup x = some k := by
        by_cases c : (j == NameKind.free && env.scope.kind == .function && env.kindOf n == some .cell) = true
        · rw [if_pos c, List.lookup_cons, e] at h'; exact h'
        · rw [if_neg c, List.lookup_cons, e] at h'; exact h'
      obtain ⟨i, m, l, q⟩ := relab_look (sc := sc) (env := env) h2
      exact ⟨i, List.mem_cons_of_mem _ m, by rw [List.lookup_cons, e]; exact l, q⟩

section
variable {X : Cx} {sc : Scope} {cl : List (Str × Addr)} {T : List Str}
theorem ScOk.seen (S : ScOk X sc cl T) {C : Addr} {x : Str} (h : (compEnvC sc cl C X.env).scope.names.lookup x = some .cell ∨ (compEnvC sc cl C X.env).scope.names.lookup x = some .free) :
    (∃ c, cl.lookup x = some c) ∧ (X.env.scope.names.lookup x = some .cell ∨ X.env.scope.names.lookup x = some .free) := by
  have key : ∀ k, (k = .cell ∨ k = .free) → (relabel sc X.env).names.lookup x = some k → (∃ c, cl.lookup x = some c) ∧ (X.env.scope.names.lookup x = some .cell ∨ X.env.scope.names.lookup x = some .free) := by
    intro k hk h
    obtain ⟨j, m, l, q⟩ := relab_look (sc := sc) (env := X.env) h
    have jf : j = .free := by
      rcases q with rfl | ⟨q, _⟩
      · rcases hk with rfl | rfl
        · exact absurd rfl (S.cell _ m)
        · rfl
      · exact q
    subst jf
    obtain ⟨a, b⟩ := S.has _ m rfl
    exact ⟨Option.isSome_iff_exists.mp a, b⟩
  rcases h with h | h
  · exact key _ (.inl rfl) h
  · exact key _ (.inr rfl) h
theorem ScOk.local_out (S : ScOk X sc cl T) {C : Addr} {x : Str} (hx : x ∈ X.N) : (compEnvC sc cl C X.env).scope.names.lookup x ≠ some .local := by
  intro h
  obtain ⟨j, m, l, q⟩ := relab_look (sc := sc) (env := X.env) h
  rcases q with rfl | ⟨_, q⟩
  · exact S.out x hx l
  · cases q

variable {pins : List (Addr × Obj)} {σ : St} {H : Hp} {s : Shared} {fp : List Addr} {C : Addr}
theorem comp_ok (S : ScOk X sc cl T) (I : Inv X pins σ H s) (hf : ∀ b ∈ fp, FpOk X pins H b) (hl : ∀ b ∈ fp, b < s.heap.objs.size) (hC : s.heap.objs.size ≤ C) : (cxComp X sc cl T C s H fp).Ok where
  mod := I.ok.mod
  kind := S.kind
  glob := I.ok.glob
  blt := I.ok.blt
  above := hC
  inj := fun x y c h1 h2 => I.ok.inj x y c (S.cls.look x c h1) (S.cls.look y c h2)
  has := fun x hx => (S.seen hx).1
  cab := fun x c h => by cases h
  hd := I.ok.hd
  frames := I.ok.frames
  stk := .inl rfl
  exf := fun b hb => ⟨Nat.ne_of_lt (Nat.lt_of_lt_of_le (hl b hb) hC), fun x c h => (hf b hb).2.2.2.2.1 x c (S.cls.look x c h)⟩
  bs := I.bs
  bsz := Nat.le_trans I.ok.bsz I.sz
  noex := fun b o e hb => by
    rcases (hf b hb).2.2.2.1 with z | z
    · exact I.ok.noex b o e z
    · exact absurd (Nat.lt_of_lt_of_le (Heap.lt_size e) (Nat.le_trans I.ok.bsz z)) (Nat.lt_irrefl _)
  exfs := fun b hb z => by
    rcases List.mem_cons.mp (I.stkSub b z) with e | e
    · exact (hf b hb).2.1 e
    · exact (hf b hb).2.2.1 e
  funs := I.stack
  frf := I.stkFree

theorem comp_inv (S : ScOk X sc cl T) (I : Inv X pins σ H s) (hf : ∀ b ∈ fp, FpOk X pins H b) (hl : ∀ b ∈ fp, b < s.heap.objs.size) (hC : s.heap.objs.size ≤ C) {h1 : Heap} {m : Str → Option Value} {t1 : Nat}
    (k : ∀ b o, s.heap.get? b = some o → h1.get? b = some o) (hn : h1.Ns C m) : Inv (cxComp X sc cl T C s H fp) [] (σ ++ List.replicate T.length none) H { s with heap := h1, toks := t1 } where
  ok := comp_ok S I hf hl hC
  os := rfl
  bare := I.bare
  base := Un.kept k
  loc := by
    refine ⟨m, hn, fun i x v e1 e2 e3 => ?_⟩
    have hi : i < σ.length := by
      by_cases hi : i < σ.length
      · exact hi
      · rw [List.getElem?_append_right (Nat.not_lt.mp hi), List.getElem?_replicate] at e2
        split at e2 <;> cases e2
    rw [List.getElem?_append_left hi] at e2
    have e1' : X.N[i]? = some x := by
      have e : (X.N ++ T)[i]? = some x := e1
      rwa [List.getElem?_append_left (by rw [← I.len]; exact hi)] at e
    have hx : x ∈ X.N := List.mem_of_getElem? e1'
    have e3' : (compEnvC sc cl C X.env).scope.names.lookup x = some .cell ∨ (compEnvC sc cl C X.env).scope.names.lookup x = some .free := by
      rcases e3 with z | z | z
      · exact absurd z (S.local_out hx)
      · exact .inl z
      · exact .inr z
    obtain ⟨⟨c, hc⟩, ko⟩ := S.seen e3'
    obtain ⟨m0, hn0, hl0⟩ := I.loc
    obtain ⟨u, r, l⟩ := hl0 i x v e1' e2 (.inr ko)
    refine ⟨u, r, .inr ⟨e3', c, hc, ?_⟩⟩
    have hc' := S.cls.look x c hc
    rcases l with ⟨kl, _⟩ | ⟨_, c', hc2, z⟩
    · have kl' : X.env.scope.names.lookup x = some .local := kl
      rcases ko with q | q
      · rw [q] at kl'; cases kl'
      · rw [q] at kl'; cases kl'
    · rw [hc'] at hc2; cases hc2
      obtain ⟨o, ho, hd⟩ := z
      exact ⟨o, k _ _ ho, hd⟩
  cell := fun x c hc => by
    obtain ⟨v, o, ho, hd⟩ := I.cell x c (S.cls.look x c hc)
    exact ⟨v, o, k _ _ ho, hd⟩
  free := I.hok.fresh hC
  freeC := fun x c hc => I.freeC x c (S.cls.look x c hc)
  pin := fun p hp => absurd (show p ∈ ([] : List (Addr × Obj)) from hp) (by simp)
  hok := I.hok.kept k
  len := by
    show (σ ++ List.replicate T.length none).length = (X.N ++ T).length
    rw [List.length_append, List.length_append, List.length_replicate, I.len]

theorem comp_out (S : ScOk X sc cl T) (I : Inv X pins σ H s) (hf : ∀ b ∈ fp, FpOk X pins H b) {D : Addr} (hD : s.heap.objs.size ≤ D) (hC : s.heap.objs.size ≤ C) (hDC : D ≠ C) {s1 : Shared} {H1 : Hp} {σ1 : St} {p1 : List (Addr × Obj)} {ys : List V} {its : List Value}
    (J : Inv (cxComp X sc cl T C s H fp) p1 σ1 H1 s1) (hH : H1 D = none) (rv : Vals ys its) (hz : ys.length ≤ sizeLine) (hget : s1.heap.get? D = some (LCg.lst its)) :
    Inv X pins σ (upd H1 D (.lst ys)) s1 := by
  have fD : H D = none := I.hok.fresh hD
  have nD : ∀ b o, s.heap.get? b = some o → b ≠ D := fun b o e => Nat.ne_of_lt (Nat.lt_of_lt_of_le (Heap.lt_size e) hD)
  refine I.call' (ch := fp) J.os ⟨fun b o e n hb hx => J.base.keep b o e n hb hx, fun b o e n hb hx => J.base.slot b o e n hb hx, fun b o e n hx => ?_, fun b o e hx => J.base.there b o e hx, fun b xs e => ?_, fun b o u e => ?_, fun b ps e => ?_⟩ (fun b u e => ?_) J.bare fun b hb => ⟨(hf b hb).2.2.2.1, (hf b hb).2.1, (hf b hb).2.2.2.2.1, (hf b hb).2.2.2.2.2⟩
  · rw [upd_ne (nD b o e)]
    exact J.base.free b o e n hx
  · rw [upd_ne (ne_of_none e fD)]
    exact J.base.tups b xs e
  · rw [upd_ne (ne_of_none e fD)]
    exact J.base.frzs b o u e
  · rw [upd_ne (ne_of_none e fD)]
    exact J.base.tbls b ps e
  · by_cases hb : b = D
    · subst hb
      rw [upd_same] at e
      cases e
      exact ⟨hz, its, its.length, rv, hget⟩
    · rw [upd_ne hb] at e
      exact (J.hok b u e).stay (fun c v _ q => q) (fun c q => by rw [upd_ne (ne_of_none q hH)]; exact q) fun c xs q => by rw [upd_ne (ne_of_none q hH)]; exact q
end
noncomputable def CompGoal (J : It) (k : Nat) (σ : St) (H1 : Hp) (g : TG) (tt : TT) (te : TE) (Q : VK) : Prop := ∃ W : Nat → Nat → List V → Hp → Prop, (∃ m, W 0 m [] H1) ∧ ∀ i m ys H, W i m ys H →
  (J.stop i H ∧ ys.length ≤ sizeLine ∧ ∀ p, H p = none → Q (.ref p) (upd H p (.lst ys))) ∨
  (J.go i H ∧ ys.length ≤ sizeLine ∧ ∀ x H', J.yld i H x H' → g x (σ ++ List.replicate k none) H' fun σ2 H2 => tt σ2 H2 fun b H3 =>
    if b = true then te σ2 H3 fun y H4 => ∃ m', m' < m ∧ W (i + 1) m' (ys ++ [y]) H4 else ∃ m', m' < m ∧ W (i + 1) m' ys H3)
noncomputable def tComp (k : Nat) (wi : TI) (g : TG) (tt : TT) (te : TE) : TE := fun σ H Q => wi σ H fun J H1 => CompGoal J k σ H1 g tt te Q

section
variable {X : Cx} {elt tg iter : Expr} {ifs : List Expr} {sc : Scope} {pos : Pos} {cl : List (Str × Addr)} {T : List Str} {wi : TI} {g : TG} {tt : TT} {te : TE}
theorem comp_run {pins : List (Addr × Obj)} {σ : St} {s2 : Shared} {H2 : Hp} {Q : VK} {E : Value → Shared → Prop} {R : Value → Addr → Result → Shared → Prop} {it : Addr} {fp : List Addr} {tn : Nat → Heap → Prop} {J : It}
    (hc : X.calm = true) (S : ScOk X sc cl T)
    (hg : ∀ C s H fp, PG (cxComp X sc cl T C s H fp) tg g) (hf : ∀ C s H fp, PFs (cxComp X sc cl T C s H fp) ifs tt) (he : ∀ C s H fp, PE (cxComp X sc cl T C s H fp) elt te)
    (I : Inv X pins σ H2 s2) (TT' : Turn X.prog X.w X.K tg J fp it tn) (st : tn 0 s2.heap) (f2 : ∀ b ∈ fp, FpOk X pins H2 b)
    (W : Nat → Nat → List V → Hp → Prop) (m0 : Nat) (w0 : W 0 m0 [] H2)
    (turn : ∀ i m ys H, W i m ys H → (J.stop i H ∧ ys.length ≤ sizeLine ∧ ∀ p, H p = none → Q (.ref p) (upd H p (.lst ys))) ∨
      (J.go i H ∧ ys.length ≤ sizeLine ∧ ∀ x H', J.yld i H x H' → g x (σ ++ List.replicate T.length none) H' fun σ2 H2 => tt σ2 H2 fun b H3 =>
        if b = true then te σ2 H3 fun y H4 => ∃ m', m' < m ∧ W (i + 1) m' (ys ++ [y]) H4 else ∃ m', m' < m ∧ W (i + 1) m' ys H3))
    (hR : ∀ (D C : Addr) (s1 : Shared) (H1 : Hp) (m : Str → Option Value), Inv X pins σ H1 s1 → H1 C = none → C ≠ X.env.locals → X.s₀.heap.objs.size ≤ C → (∀ x c, X.env.cells.lookup x = some c → c ≠ C) → (∀ p ∈ X.pn ++ pins, p.1 ≠ C) →
      s1.heap.Ns C m → Q (.ref D) H1 → R (.ref D) C (.ok .next) s1) :
    wpAny (model X.prog X.w) X.A (newList []) (fun acc s₃ => wpAny (model X.prog X.w) X.A (newFunctionEnv sc X.env.globals cl [] X.env.qual none .none (some X.env)) (fun cenv s₄ =>
      codeAny (model X.prog X.w) X.A (.compStart (.ListComp elt [⟨tg, iter, ifs, 0⟩] sc pos) 0 (.ref it) acc { cenv with scope := relabel sc X.env }) (R acc cenv.locals) s₄) E s₃) E s2 := by
  refine wpAny_newObj_type (wpAny_newFunctionEnv S.cell (by intro y hy; simp at hy) (fun h1 hn1 sb1 => ?_) S.kind)
  dsimp only at hn1 sb1 ⊢
  generalize hH : s2.heap.push { cls := .type "list", dict := none, data := .seq ([] : List Value).toArray } = G at hn1 sb1 ⊢
  have hC : G.objs.size = s2.heap.objs.size + 1 := by rw [← hH, Heap.size_push]
  have hDC : s2.heap.objs.size ≠ G.objs.size := by rw [hC]; exact Nat.ne_of_lt (Nat.lt_succ_self _)
  have hCle : s2.heap.objs.size ≤ G.objs.size := by rw [hC]; exact Nat.le_succ _
  have old : ∀ b o, s2.heap.get? b = some o → h1.get? b = some o := fun b o e => by
    exact sb1.extBut b o (Nat.ne_of_lt (Nat.lt_of_lt_of_le (Heap.lt_size e) hCle)) (Heap.get?_push_of_some _ (hH ▸ Heap.get?_push_of_some _ e))
  have hacc : h1.get? s2.heap.objs.size = some (LCg.lst []) := sb1.extBut _ _ hDC (Heap.get?_push_of_some _ (hH ▸ Heap.get?_push_size _ rfl))
  have fl : ∀ b ∈ fp, b < s2.heap.objs.size := fun b hb => by
    obtain ⟨o, e, _⟩ := TT'.obj _ _ st b hb
    exact Heap.lt_size e
  have DS : s2.heap.objs.size ∉ frs X.stack := fun z => by
    rcases List.mem_cons.mp (I.stkSub _ z) with e | e
    · exact Nat.ne_of_lt I.lt e.symm
    · exact I.nofs (Nat.le_refl _) e
  have keepT : ∀ (i : Nat) (h h' : Heap), tn i h → (∀ b o, b < s2.heap.objs.size → h.get? b = some o → h'.get? b = some o) → tn i h' := fun i h h' z k => TT'.keep i h h' z fun b hb o e => k b o (fl b hb) e
  have fpo : ∀ {H' : Hp} {pl : List (Addr × Obj)}, (∀ b ∈ fp, H' b = none) → (∀ p ∈ pl, s2.heap.objs.size ≤ p.1) → ∀ b ∈ fp, FpOk (cxComp X sc cl T G.objs.size s2 H2 fp) pl H' b := fun {H' pl} hn hp b hb => by
    refine ⟨hn b hb, fun z => ?_, fun z => ?_, .inl hb, fun x c h => (f2 b hb).2.2.2.2.1 x c (S.cls.look x c h), fun p hp' z => ?_⟩
    · exact Nat.ne_of_lt (Nat.lt_of_lt_of_le (fl b hb) hCle) z
    · rcases List.mem_cons.mp (I.stkSub b z) with e | e
      · exact (f2 b hb).2.1 e
      · exact (f2 b hb).2.2.1 e
    · exact Nat.ne_of_lt (Nat.lt_of_lt_of_le (fl b hb) (hp p (show p ∈ pl from hp'))) z.symm
  let Y := cxComp X sc cl T G.objs.size s2 H2 fp
  have loop : ∀ z : Shared, z = { s2 with heap := h1, toks := s2.toks + ([] : List (Str × Value)).length } →
      codeAny (model X.prog X.w) X.A (.compLoop (.ListComp elt [⟨tg, iter, ifs, 0⟩] sc pos) 0 (.ref it) (.ref s2.heap.objs.size) (compEnvC sc cl G.objs.size X.env)) (R (.ref s2.heap.objs.size) G.objs.size) z := by
    rintro z rfl
    refine comp_loop (fun n z => ∃ i ys its H', Inv Y [] (σ ++ List.replicate T.length none) H' z ∧ tn i z.heap ∧ (∀ b ∈ fp, H' b = none) ∧ H' s2.heap.objs.size = none ∧ Vals ys its ∧ z.heap.get? s2.heap.objs.size = some (LCg.lst its) ∧ W i n ys H') _ rfl ?_ m0
      ⟨0, [], [], H2, comp_inv S I f2 fl hCle old hn1, TT'.keep _ _ _ st fun b hb o e => old b o e, fun b hb => (f2 b hb).1, I.hok.fresh (Nat.le_refl _), .nil, hacc, w0⟩
    rintro n z ⟨i, ys, its, H', IY, stz, frz, fD, rv, hget, wz⟩
    have IP : Inv Y [(s2.heap.objs.size, LCg.lst its)] (σ ++ List.replicate T.length none) H' z := IY.pins_of fun p hp => by
      have e : p = (s2.heap.objs.size, LCg.lst its) := by simpa using hp
      subst e
      exact ⟨hget, fD, hDC, DS, fun v q => by cases (show Data.seq _ _ = Data.cell v from q)⟩
    have hpl : ∀ p ∈ [(s2.heap.objs.size, LCg.lst its)], s2.heap.objs.size ≤ p.1 := fun p hp => by
      have e : p = (s2.heap.objs.size, LCg.lst its) := by simpa using hp
      subst e
      exact Nat.le_refl _
    rcases turn i n ys H' wz with ⟨stop, hz, q⟩ | ⟨go, hz, step⟩
    · refine thn (TT'.done Y rfl rfl rfl hc i _ z _ H' _ IP (fpo frz hpl) stz stop) fun r z1 ⟨hr, I1⟩ => ?_
      subst hr
      have g1 : z1.heap.get? s2.heap.objs.size = some (LCg.lst its) := (I1.pin (s2.heap.objs.size, LCg.lst its) (by simp [Y, cxComp])).1
      obtain ⟨mC, hnC, _⟩ := I1.loc
      have out := comp_out S I f2 (Nat.le_refl _) hCle hDC I1 fD rv hz g1
      refine hR _ _ z1 _ mC out ?_ ?_ ?_ ?_ ?_ hnC (q _ fD)
      · rw [upd_ne (Ne.symm hDC)]
        exact I1.free
      · exact (Nat.ne_of_lt (Nat.lt_of_lt_of_le I.lt hCle)).symm
      · exact Nat.le_trans I.sz hCle
      · intro x c hcc
        obtain ⟨v, zc⟩ := I.cell x c hcc
        exact Nat.ne_of_lt (Nat.lt_of_lt_of_le zc.lt hCle)
      · intro p hp
        exact Nat.ne_of_lt (Nat.lt_of_lt_of_le (Heap.lt_size (I.pin p hp).1) hCle)
    · refine thn (TT'.item Y rfl rfl rfl hc i _ z _ H' _ IP (fpo frz hpl) stz go) fun r z1 ⟨u, hr, h1'⟩ => ?_
      subst hr
      refine thn h1' fun _ z2 ⟨x, H3, I3, r3, y3, st3, fr3⟩ => ?_
      have I3' := I3.pinned (fpo fr3 hpl) (TT'.obj _ _ st3)
      have fin : ∀ {H' : Hp} {σ' : St} {z' : Shared}, Inv Y ([(s2.heap.objs.size, LCg.lst its)] ++ pinsAt fp z2.heap) σ' H' z' → tn (i + 1) z'.heap ∧ (∀ b ∈ fp, H' b = none) ∧ H' s2.heap.objs.size = none ∧ z'.heap.get? s2.heap.objs.size = some (LCg.lst its) := fun {H' σ' z'} I' => by
        have a1 : ∀ b ∈ fp, ∀ o, z2.heap.get? b = some o → z'.heap.get? b = some o ∧ H' b = none := fun b hb o e =>
          let p := I'.pin (b, o) (List.mem_append_right _ (List.mem_append_right _ (mem_pinsAt hb e)))
          ⟨p.1, p.2.1⟩
        have a2 := I'.pin (s2.heap.objs.size, LCg.lst its) (List.mem_append_right _ (by simp))
        exact ⟨TT'.keep _ _ _ st3 fun b hb o e => (a1 b hb o e).1, fun b hb => by
          obtain ⟨o, e, _⟩ := TT'.obj _ _ st3 b hb
          exact (a1 b hb o e).2, a2.2.1, a2.1⟩
      have bare : ∀ {H' : Hp} {σ' : St} {z' : Shared}, Inv Y ([(s2.heap.objs.size, LCg.lst its)] ++ pinsAt fp z2.heap) σ' H' z' → Inv Y [] σ' H' z' := fun I' => I'.pins_of fun p hp => absurd hp (by simp)
      refine wpAny_mono (hg G.objs.size s2 H2 fp _ z2 _ H3 x u _ I3' r3 (step x H3 y3)) (fun _ z3 ⟨σ4, H4, I4, q4⟩ => ?_) fun _ _ e => e.elim
      refine wpAny_mono (hf G.objs.size s2 H2 fp _ z3 _ H4 _ I4 q4) (fun ok z4 ⟨H5, I5, q5⟩ => ?_) fun _ _ e => e.elim
      have lenσ : ∀ {H' : Hp} {σ' : St} {z' : Shared} {pl}, Inv Y pl σ' H' z' → (σ ++ List.replicate T.length none).length = σ'.length := fun I' => by rw [I'.len]; exact IY.len
      have weak : ∀ {H' : Hp} {z' : Shared}, Inv Y [] σ4 H' z' → Inv Y [] (σ ++ List.replicate T.length none) H' z' := fun {H' z'} I' => by
        have c0 := comp_inv (T := T) (t1 := z'.toks) S I f2 fl hCle old hn1
        obtain ⟨m', hn', hl'⟩ := I'.loc
        obtain ⟨_, _, hl0⟩ := I.loc
        refine ⟨I'.ok, I'.os, I'.bare, I'.base, ⟨m', hn', fun j x v e1 e2 e3 => ?_⟩, I'.cell, I'.free, I'.freeC, I'.pin, I'.hok, (lenσ I').trans I'.len⟩
        have hj : j < σ.length := by
          by_cases hj : j < σ.length
          · exact hj
          · rw [List.getElem?_append_right (Nat.not_lt.mp hj), List.getElem?_replicate] at e2
            split at e2 <;> cases e2
        have e2' := e2
        rw [List.getElem?_append_left hj] at e2'
        have e1' : X.N[j]? = some x := by
          have e : (X.N ++ T)[j]? = some x := e1
          rwa [List.getElem?_append_left (by rw [← I.len]; exact hj)] at e
        have hx : x ∈ X.N := List.mem_of_getElem? e1'
        have e3' : (compEnvC sc cl G.objs.size X.env).scope.names.lookup x = some .cell ∨ (compEnvC sc cl G.objs.size X.env).scope.names.lookup x = some .free := by
          rcases e3 with z | z | z
          · exact absurd z (S.local_out hx)
          · exact .inl z
          · exact .inr z
        obtain ⟨⟨c, hc'⟩, ko⟩ := S.seen e3'
        obtain ⟨u, r, l⟩ := hl0 j x v e1' e2' (.inr ko)
        have hcX := S.cls.look x c hc'
        refine ⟨u, r, .inr ⟨e3', c, hc', ?_⟩⟩
        rcases l with ⟨kl, _⟩ | ⟨_, c', hc2, zc⟩
        · have kl' : X.env.scope.names.lookup x = some .local := kl
          rcases ko with q | q
          · rw [q] at kl'; cases kl'
          · rw [q] at kl'; cases kl'
        · rw [hcX] at hc2; cases hc2
          obtain ⟨o, ho, hd⟩ := zc
          have nfp : c ∉ fp := fun hb => (f2 c hb).2.2.2.2.1 x c hcX rfl
          obtain ⟨sl, e⟩ := I'.base.any ho (I.freeC x c hcX) nfp
          exact ⟨_, e, hd⟩
      cases ok with
      | false =>
        rw [if_neg Bool.false_ne_true] at q5 ⊢
        obtain ⟨m', hm, w'⟩ := q5
        obtain ⟨b1, b2, b3, b4⟩ := fin I5
        exact ⟨m', hm, i + 1, ys, its, H5, weak (bare I5), b1, b2, b3, rv, b4, w'⟩
      | true =>
        rw [if_pos rfl] at q5 ⊢
        refine wpAny_mono (he G.objs.size s2 H2 fp _ z4 _ H5 _ I5 q5) (fun y z5 ⟨yv, H6, I6, r6, q6⟩ => ?_) fun _ _ e => e.elim
        obtain ⟨m', hm, w'⟩ := q6
        obtain ⟨b1, b2, b3, b4⟩ := fin I6
        refine append_at (hsz := by show its.toArray.size ≤ sizeLine; rw [List.size_toArray, ← rv.length]; exact hz) b4 fun h6 sb6 g6 => ?_
        have I7 : Inv Y [] (σ ++ List.replicate T.length none) H6 { z5 with heap := h6 } := (weak (bare I6)).turned (t' := z5.toks) (it := s2.heap.objs.size) (fun b o hb e => (sb6.2 b hb).trans e) b3 hDC (.inr (Nat.le_refl _)) (fun x c h => by
          obtain ⟨v, zc⟩ := I.cell x c (S.cls.look x c h)
          exact Nat.ne_of_lt zc.lt) fun p hp => absurd (show p ∈ ([] : List (Addr × Obj)) from hp) (by simp)
        refine ⟨m', hm, i + 1, ys ++ [yv], its ++ [y], H6, I7, keepT _ _ _ b1 fun b o hb e => (sb6.2 b (Nat.ne_of_lt hb)).trans e, b2, b3, rv.append (.cons r6 .nil), g6.trans (congrArg some (LCg.lst_snoc its y)), w'⟩
  exact codeAny_compStart_list (loop _ rfl) (TT'.self _ 0 _ _ _ (TT'.keep _ _ _ st fun b hb o e => old b o e) (loop _ rfl))

theorem pe_comp (hc : X.calm = true) (S : ScOk X sc cl T) (hi : PI X tg iter wi)
    (hg : ∀ C s H fp, PG (cxComp X sc cl T C s H fp) tg g) (hf : ∀ C s H fp, PFs (cxComp X sc cl T C s H fp) ifs tt) (he : ∀ C s H fp, PE (cxComp X sc cl T C s H fp) elt te)
    (hs : ∀ x, foldedSetIterable iter X.env x = pure x := by intro _; rfl) : PE X (.ListComp elt [⟨tg, iter, ifs, 0⟩] sc pos) (tComp T.length wi g tt te) := by
  intro pins s σ H Q I h
  rw [eval_ListComp]
  refine wpAny_comprehension_free (use := none) rfl hs S.clos S.kind S.names (thn (hi pins s σ H _ I h) fun v s1 h1 => thn h1 fun itv s2 h2 => ?_)
  obtain ⟨it, fp, tn, J, H2, e, I2, TT', st2, f2, W, ⟨m0, w0⟩, turn⟩ := h2
  subst e
  refine comp_run (Q := Q) hc S hg hf he I2 TT' st2 f2 W m0 w0 turn fun D C z H1 m I1 n1 n2 n3 n4 n5 hn q => ?_
  exact ⟨m, hn, fun h' sb => ⟨.ref D, H1, I1.turned (t' := z.toks) (it := C) (fun b o hb e => (sb.2 b hb).trans e) n1 n2 (.inr n3) n4 n5, rfl, q⟩⟩
theorem ps_setComp {i : Nat} {y : Str} {py spos : Pos} (hc : X.calm = true) (S : ScOk X sc cl T) (hi : PI X tg iter wi)
    (hg : ∀ C s H fp, PG (cxComp X sc cl T C s H fp) tg g) (hf : ∀ C s H fp, PFs (cxComp X sc cl T C s H fp) ifs tt) (he : ∀ C s H fp, PE (cxComp X sc cl T C s H fp) elt te)
    (hN : X.N.Nodup) (hix : X.N[i]? = some y) (hx : X.env.scope.names.lookup y = some .local)
    (hsw : swapsWith (.ListComp elt [⟨tg, iter, ifs, 0⟩] sc pos) (some (.Name y py)) spos.line X.env = pure true)
    (hs : ∀ x, foldedSetIterable iter X.env x = pure x := by intro _; rfl) :
    PS X (.Assign [.Name y py] (.ListComp elt [⟨tg, iter, ifs, 0⟩] sc pos) spos) (tAsg (tComp T.length wi g tt te) (gName i)) := by
  intro pins s σ H D I h
  rw [exec_Assign_Name_used _ _ _ _ hsw]
  refine wpAny_bind (wpAny_standAt (wpAny_bind ?_))
  show wpAny _ X.A (do let _ ← comprehension (.ListComp elt [⟨tg, iter, ifs, 0⟩] sc pos) sc X.env _ (newList []) false (eval iter X.env) (some (assign (.Name y py) X.env))) _ _ s
  refine wpAny_bind (thn (wpAny_comprehension_free (use := some (assign (.Name y py) X.env)) (Q := fun _ s' => SP X pins D .next s') rfl hs S.clos S.kind S.names (thn (hi pins s σ H _ I h) fun v s1 h1 => thn h1 fun itv s2 h2 => ?_)) fun _ s' hq => wpAny_pure (wpAny_pure hq))
  obtain ⟨it, fp, tn, J, H2, e, I2, TT', st2, f2, W, ⟨m0, w0⟩, turn⟩ := h2
  subst e
  refine comp_run (Q := fun x H1 => gName i x σ H1 D.nx) hc S hg hf he I2 TT' st2 f2 W m0 w0 turn fun A C z H1 m I1 n1 n2 n3 n4 n5 hn q => ?_
  show wpAny _ X.A (assign (.Name y py) X.env (.ref A)) _ _ z
  refine wpAny_assign_Name (store_ok2 (v := .ref A) I1 hN hix (.inl hx) rfl (fun z' I' ⟨a, sb, ha⟩ => ?_) (.inr hx))
  have hCa : C ≠ a := by
    rcases ha with e | e
    · rw [e]; exact n2
    · exact (n4 y a e).symm
  refine ⟨m, hn.sameBut sb hCa, fun h' sb' => ⟨_, H1, I'.turned (t' := z'.toks) (it := C) (fun b o hb e => (sb'.2 b hb).trans e) n1 n2 (.inr n3) n4 n5, q⟩⟩
end
end L2
-- MOD Ex1
/-! More rules for the hand layer: isinstance, all, is True, texts walked and cut, keywords at a class. -/
namespace L2
open PySem PySem.Spec PyProof.Rows
section
variable {X : Cx}
theorem v1 {x : V} {us : List Value} (r : Vals [x] us) : ∃ u, us = [u] ∧ RelV x u := by
  cases r with
  | cons a b => cases b; exact ⟨_, rfl, a⟩
theorem v2 {x y : V} {us : List Value} (r : Vals [x, y] us) : ∃ u v, us = [u, v] ∧ RelV x u ∧ RelV y v := by
  cases r with
  | cons a b =>
    cases b with
    | cons c d => cases d; exact ⟨_, _, rfl, a, c⟩
theorem call_isinst : CallR X (.builtin "isinstance") (fun xs H Q => ∃ x c t cv b, xs = [x, c] ∧ TyOf X.K H x t ∧ RelV c cv ∧ PySem.W.kitOne X.K t cv = some b ∧ Q (.bl b) H) := by
  intro pins s σ H xs us Q I r h
  obtain ⟨x, c, t, cv, b, rfl, ty, rc, e, q⟩ := h
  obtain ⟨u, v, rfl, ru, rv⟩ := v2 r
  have hv : v = cv := by
    cases c with
    | non => exact (show v = Value.none from rv).trans (show cv = Value.none from rc).symm
    | bl z => exact (show v = Value.bool z from rv).trans (show cv = Value.bool z from rc).symm
    | int i =>
      obtain ⟨t1, rfl⟩ := rc
      exact absurd e (by unfold PySem.W.kitOne; cases ty <;> simp [PySem.W.kitCls])
    | str i =>
      obtain ⟨t1, rfl⟩ := rc
      exact absurd e (by unfold PySem.W.kitOne; cases ty <;> simp [PySem.W.kitCls])
    | byt i =>
      obtain ⟨t1, rfl⟩ := rc
      exact absurd e (by unfold PySem.W.kitOne; cases ty <;> simp [PySem.W.kitCls])
    | flt i =>
      obtain ⟨t1, rfl⟩ := rc
      exact absurd e (by unfold PySem.W.kitOne; cases ty <;> simp [PySem.W.kitCls])
    | ref a => exact (show v = Value.ref a from rv).trans (show cv = Value.ref a from rc).symm
    | ty n => exact (show v = Value.type n from rv).trans (show cv = Value.type n from rc).symm
  subst hv
  exact isinst_ok I ru ty e fun tk => ⟨.bl b, H, I.tok tk, rfl, q⟩

theorem bools_get : ∀ {bs : List Bool} {us : List Value} {i : Nat} {v : Value}, Vals (bs.map V.bl) us → us[i]? = some v → ∃ b, bs[i]? = some b ∧ v = Value.bool b
  | [], _, i, v, .nil, h => by simp at h
  | b :: r, _, 0, v, .cons a t, h => by
    simp at h
    subst h
    exact ⟨b, rfl, a⟩
  | b :: r, _, i + 1, v, .cons a t, h => by
    obtain ⟨b', e, q⟩ := bools_get (bs := r) (i := i) t (by simpa using h)
    exact ⟨b', by simpa using e, q⟩
theorem all_range : ∀ (bs : List Bool), ((List.range bs.length).all fun i => (bs[i]?).getD true) = bs.all id
  | [] => rfl
  | b :: r => by
    rw [List.length_cons, List.range_succ_eq_map, List.all_cons, List.all_map, List.all_cons]
    have e := all_range r
    simp only [Function.comp_def, List.getElem?_cons_succ, List.getElem?_cons_zero, Option.getD_some, id] at *
    rw [← e]
theorem call_all (hc : X.calm = true) : CallR X (.builtin "all") (fun xs H Q => ∃ (p : Addr) (bs : List Bool), xs = [.ref p] ∧ SqL X.K H p (bs.map V.bl) ∧ Q (.bl (bs.all id)) H) := by
  intro pins s σ H xs us Q I r h
  obtain ⟨p, bs, rfl, hp, q⟩ := h
  obtain ⟨u, rfl, ru⟩ := v1 r
  cases (show u = Value.ref p from ru)
  obtain ⟨its, rv, pl, hz⟩ := I.list hp
  have hl := pl.isList
  have hlt : p < s.heap.objs.size := by obtain ⟨_, e, _⟩ := hl; exact Heap.lt_size e
  have hlen : its.length = bs.length := by rw [← rv.length, List.length_map]
  refine call_all_walk (wpAny_pyIter_list hl ?_)
  refine ⟨s.heap.objs.size, [s.heap.objs.size, p], [s.heap.objs.size], its.toArray.size, _, _, fun i => (bs[i]?).getD true, rfl, Walks.list (A := X.A.in1) (I.ok.hd hc) _ p (Nat.ne_of_lt hlt) its.toArray,
    ⟨⟨_, Heap.get?_push_size _ rfl, rfl, rfl⟩, hl.push _⟩, fun i v s' Q' E' hP hQ => ?_, fun h' tk hk => ?_⟩
  · obtain ⟨b, e, rfl⟩ := bools_get rv (by simpa using hP)
    simp only [e, Option.getD_some] at hQ
    exact wpAny_truthy_bool hQ
  · rw [List.size_toArray, hlen, all_range]
    exact ⟨.bl _, H, I.kept (t' := tk) fun b o e => hk b o (fun hm => by rw [List.mem_singleton.mp hm] at e; exact Nat.lt_irrefl _ (Heap.lt_size e)) (Heap.get?_push_of_some _ e), rfl, q⟩

noncomputable def Its (x : Str) : It := ⟨fun i _ => i < x.length, fun i H v H' => H' = H ∧ ∃ c, x.cps[i]? = some c ∧ v = .str ⟨#[c]⟩, fun i _ => x.length ≤ i⟩
noncomputable def iStr (tl : TE) : TI := fun σ H R => tl σ H fun v H1 => ∃ x, v = .str x ∧ R (Its x) H1
theorem turn_str {P : Program} {w : World} {K : PySem.W.Frag} {y : Str} {py : Pos} {x : Str} {it : Addr} {St : Nat → Heap → Prop} (ho : ∀ i h, St i h → ∃ o, h.get? it = some o ∧ ∀ v, o.data ≠ .cell v)
    (W : ∀ A' : Around, A'.handled = none → Walks P w A' it [it] [it] x.cps.size (SignAt x) St) (hself : ∀ (A : Around) (i : Nat) (s : Shared) (Q : Value → Shared → Prop) (E : Value → Shared → Prop), St i s.heap → Q (.ref it) s → wpAny (model P w) A (pyIter (.ref it)) Q E s)
    (hst : ∀ i h, St i h → i ≤ x.cps.size → True) : Turn P w K (.Name y py) (Its x) [it] it (fun i h => i ≤ x.cps.size ∧ St i h) where
  mem := by simp
  obj := fun i h st b hb => by
    have e : b = it := by simpa using hb
    subst e
    exact ho i h st.2
  keep := fun i h h' st k => ⟨st.1, (W { callerA with handled := none } rfl).frame i h h' st.2 k⟩
  item := by
    intro X hP hw hK hc i pins s σ H E I hf st hg
    subst hP hw hK
    obtain ⟨f0, f1, f2, f3, f4, f5⟩ := hf it (by simp)
    refine (W X.A (I.ok.hd hc)).item i s _ _ hg st.2 fun v h' tk hv st' kk => ?_
    obtain ⟨c, u, hc', rfl⟩ := hv
    have I1 : Inv X pins σ H { s with heap := h', toks := tk } := I.turned (fun b o hb e => kk b o (by simpa using hb) e) f0 f1 f3 f4 f5
    exact ⟨_, rfl, wpAny_pure ⟨.str ⟨#[c]⟩, H, I1, ⟨u, rfl⟩, ⟨rfl, c, hc', rfl⟩, ⟨hg, st'⟩, fun b hb => (hf b hb).1⟩⟩
  done := by
    intro X hP hw hK hc i pins s σ H E I hf st hg
    subst hP hw hK
    obtain ⟨f0, f1, f2, f3, f4, f5⟩ := hf it (by simp)
    have e : i = x.cps.size := Nat.le_antisymm st.1 hg
    have st2 := st.2
    rw [e] at st2
    exact (W X.A (I.ok.hd hc)).done s _ _ st2 fun h' tk kk => ⟨rfl, I.turned (fun b o hb e => kk b o (by simpa using hb) e) f0 f1 f3 f4 f5⟩
  self := fun A i s Q E st h => hself A i s Q E st.2 h
theorem pi_str {y : Str} {py : Pos} {l : Expr} {tl : TE} (hl : PE X l tl) : PI X (.Name y py) l (iStr tl) := by
  intro pins s σ H R I h
  refine thn (hl pins s σ H _ I h) fun v s1 ⟨x, H1, I1, r1, q1⟩ => ?_
  obtain ⟨z, rfl, q⟩ := q1
  obtain ⟨t, rfl⟩ := r1
  have fin : ∀ {o : Obj} {St : Nat → Heap → Prop}, Turn X.prog X.w X.K (.Name y py) (Its z) [s1.heap.objs.size] s1.heap.objs.size St → St 0 (s1.heap.push o) → PIE X pins σ (.Name y py) R (.ref s1.heap.objs.size) { s1 with heap := s1.heap.push o } := fun {o St} T st => by
    refine ⟨s1.heap.objs.size, [s1.heap.objs.size], St, _, H1, rfl, I1.kept (t' := s1.toks) fun b o e => Heap.get?_push_of_some _ e, T, st, fun b hb => ?_, q⟩
    have e : b = s1.heap.objs.size := by simpa using hb
    subst e
    exact I1.fpOk (Nat.le_refl _) (I1.hok.fresh (Nat.le_refl _))
  cases ha : z.cps.all (· < 128)
  · refine wpAny_pyIter_wide ha (fin (turn_str (fun i h st => ?_) (fun A' hA => Walks.strWide hA _ z t) (fun A i s Q E st h => wpAny_pyIter_striter_wide st h) fun _ _ _ _ => trivial) ⟨Nat.zero_le _, ⟨_, Heap.get?_push_size _ rfl, rfl, rfl⟩⟩)
    obtain ⟨o, e, c, d⟩ := st
    exact ⟨o, e, fun v q => by rw [d] at q; cases q⟩
  · refine wpAny_pyIter_ascii ha (fin (turn_str (fun i h st => ?_) (fun A' hA => Walks.strAscii hA _ z t) (fun A i s Q E st h => wpAny_pyIter_striter_ascii st h) fun _ _ _ _ => trivial) ⟨Nat.zero_le _, ⟨_, Heap.get?_push_size _ rfl, rfl, rfl⟩⟩)
    obtain ⟨o, e, c, d⟩ := st
    exact ⟨o, e, fun v q => by rw [d] at q; cases q⟩

end
/-! ### a class, made by keywords -/
section
variable {X : Cx} {CX : CXT} {k : Nat} {f C : Addr} {fd : FuncData} {ps ks : List Str} {sp : Sp} {E : St → XK} {x : Str} {p pos : Pos} {e : Expr} {es : List Expr} {kws : List Keyword} {t tk : TA} {g : List Value → List Value → List Value} {gV : List V → List V → List V}
end
end L2
-- MOD Ex2
/-! Data by content and ==; sets of texts; // by greater divisors. -/
namespace L2
open PySem PySem.Spec PyProof.Rows
/-! ### // by a divisor of any written size -/
theorem log2_lt64 {j : Int} (h0 : 0 < j) (h1 : j < 2 ^ 64) : j.natAbs.log2 < 9000 := by
  have : j.natAbs < 2 ^ 64 := by omega
  have h : j.natAbs.log2 < 64 := (Nat.log2_lt (by omega)).mpr this
  omega
noncomputable def CDivB (i j : Int) : Prop := 0 < j ∧ j < 2 ^ 64
theorem op_fdivB {X : Cx} : OpR X (binaryOp .FloorDiv) (rI CDivB fun i j => .int (i / j)) := opI fun i j _ _ _ _ _ hc q => by
  have h1 : (0 : Int) < j := hc.1
  exact floordiv_int (by omega) (by rw [Int.fdiv_eq_ediv_of_nonneg i (by omega)]; exact q) (.inl (PyProof.noPylong_of_log2 (log2_lt64 hc.1 hc.2)))

/-! ### data: every address in it is one of G -/
mutual
inductive Has (G : Addr → Prop) (H : Hp) : V → PyData → Prop where
  | non : Has G H .non .none
  | bl (b : Bool) : Has G H (.bl b) (.bool b)
  | int (i : Int) : Has G H (.int i) (.int i)
  | str (x : Str) (hx : x.length ≤ 1000) (ho : PyData.strOk x = true) : Has G H (.str x) (.str x)
  | lst {a : Addr} {xs : List V} {ds : List PyData} : G a → H a = some (.lst xs) → xs.length ≤ 1000 → HasAll G H xs ds → Has G H (.ref a) (.list ds)
  | tup {a : Addr} {xs : List V} {ds : List PyData} : G a → H a = some (.tup xs) → xs.length ≤ 1000 → HasAll G H xs ds → Has G H (.ref a) (.tuple ds)
inductive HasAll (G : Addr → Prop) (H : Hp) : List V → List PyData → Prop where
  | nil : HasAll G H [] []
  | cons {x : V} {xs : List V} {d : PyData} {ds : List PyData} : Has G H x d → HasAll G H xs ds → HasAll G H (x :: xs) (d :: ds)
end
noncomputable abbrev Any : Addr → Prop := fun _ => True
noncomputable def isSeq : HO → Prop
  | .lst _ => True
  | .tup _ => True
  | _ => False
mutual
theorem Has.frameS {G G' : Addr → Prop} {H H' : Hp} (e : ∀ a o, G a → isSeq o → H a = some o → G' a ∧ H' a = some o) : ∀ {v : V} {d : PyData}, Has G H v d → Has G' H' v d
  | _, _, .non => .non
  | _, _, .bl b => .bl b
  | _, _, .int i => .int i
  | _, _, .str x hx ho => .str x hx ho
  | _, _, .lst (xs := xs) g s z h => .lst (e _ (.lst xs) g trivial s).1 (e _ (.lst xs) g trivial s).2 z (HasAll.frameS e h)
  | _, _, .tup (xs := xs) g s z h => .tup (e _ (.tup xs) g trivial s).1 (e _ (.tup xs) g trivial s).2 z (HasAll.frameS e h)
theorem HasAll.frameS {G G' : Addr → Prop} {H H' : Hp} (e : ∀ a o, G a → isSeq o → H a = some o → G' a ∧ H' a = some o) : ∀ {vs : List V} {ds : List PyData}, HasAll G H vs ds → HasAll G' H' vs ds
  | _, _, .nil => .nil
  | _, _, .cons h t => .cons (Has.frameS e h) (HasAll.frameS e t)
end
theorem Has.frame {G G' : Addr → Prop} {H H' : Hp} {v : V} {d : PyData} (h : Has G H v d) (e : ∀ a o, G a → H a = some o → G' a ∧ H' a = some o) : Has G' H' v d := h.frameS fun a o g _ q => e a o g q
theorem HasAll.frame {G G' : Addr → Prop} {H H' : Hp} {v : List V} {d : List PyData} (h : HasAll G H v d) (e : ∀ a o, G a → H a = some o → G' a ∧ H' a = some o) : HasAll G' H' v d := h.frameS fun a o g _ q => e a o g q
theorem Has.mono {G : Addr → Prop} {H H' : Hp} {v : V} {d : PyData} (h : Has G H v d) (e : Same H H') : Has G H' v d := h.frame fun a o g q => ⟨g, e a o q⟩
theorem HasAll.mono {G : Addr → Prop} {H H' : Hp} {v : List V} {d : List PyData} (h : HasAll G H v d) (e : Same H H') : HasAll G H' v d := h.frame fun a o g q => ⟨g, e a o q⟩
theorem Has.any {G : Addr → Prop} {H : Hp} {v : V} {d : PyData} (h : Has G H v d) : Has Any H v d := h.frame fun _ _ _ q => ⟨trivial, q⟩
section
variable {G : Addr → Prop} {H : Hp}
theorem HasAll.length : ∀ {xs : List V} {ds : List PyData}, HasAll G H xs ds → xs.length = ds.length
  | _, _, .nil => rfl
  | _, _, .cons _ t => by rw [List.length_cons, List.length_cons, HasAll.length t]
theorem HasAll.get : ∀ {xs : List V} {ds : List PyData} {i : Nat} {x : V}, HasAll G H xs ds → xs[i]? = some x → ∃ d, ds[i]? = some d ∧ Has G H x d
  | _, _, i, x, .nil, h => by simp at h
  | _, _, 0, x, .cons a t, h => by simp at h; subst h; exact ⟨_, rfl, a⟩
  | _, _, i + 1, x, .cons a t, h => by
    obtain ⟨d, e, q⟩ := HasAll.get (i := i) t (by simpa using h)
    exact ⟨d, by simpa using e, q⟩
theorem HasAll.snoc : ∀ {xs : List V} {ds : List PyData} {x : V} {d : PyData}, HasAll G H xs ds → Has G H x d → HasAll G H (xs ++ [x]) (ds ++ [d])
  | _, _, _, _, .nil, h => .cons h .nil
  | _, _, _, _, .cons a t, h => .cons a (HasAll.snoc t h)
theorem Has.list_inv {v : V} {ds : List PyData} (h : Has G H v (.list ds)) : ∃ a xs, v = .ref a ∧ G a ∧ H a = some (.lst xs) ∧ xs.length ≤ 1000 ∧ HasAll G H xs ds := by
  cases h with
  | lst g s z q => exact ⟨_, _, rfl, g, s, z, q⟩
theorem Has.tup_inv {v : V} {ds : List PyData} (h : Has G H v (.tuple ds)) : ∃ a xs, v = .ref a ∧ G a ∧ H a = some (.tup xs) ∧ xs.length ≤ 1000 ∧ HasAll G H xs ds := by
  cases h with
  | tup g s z q => exact ⟨_, _, rfl, g, s, z, q⟩
theorem Has.str_inv {v : V} {x : Str} (h : Has G H v (.str x)) : v = .str x ∧ x.length ≤ 1000 ∧ PyData.strOk x = true := by
  cases h with
  | str _ a b => exact ⟨rfl, a, b⟩
mutual
theorem Has.lay : ∀ {v : V} {d : PyData}, Has G H v d → d.canLay0 = true
  | _, _, .non => rfl
  | _, _, .bl b => rfl
  | _, _, .int i => rfl
  | _, _, .str x _ ho => ho
  | _, _, .lst _ _ _ h => HasAll.lay h
  | _, _, .tup _ _ _ h => HasAll.lay h
theorem HasAll.lay : ∀ {vs : List V} {ds : List PyData}, HasAll G H vs ds → PyData.canLayAll0 ds = true
  | _, _, .nil => rfl
  | _, _, .cons h t => by
    show (PyData.canLay0 _ && PyData.canLayAll0 _) = true
    rw [Has.lay h, HasAll.lay t]
    rfl
end
end
section
variable {X : Cx} {pins : List (Addr × Obj)} {σ : St} {H : Hp} {s : Shared} {G : Addr → Prop}
mutual
theorem Has.reads (I : Inv X pins σ H s) : ∀ {v : V} {d : PyData} {u : Value}, Has G H v d → RelV v u → ∃ as, Reads s.heap u d as
  | _, _, u, .non, r => by cases (show u = Value.none from r); exact ⟨_, .none⟩
  | _, _, u, .bl b, r => by cases (show u = Value.bool b from r); exact ⟨_, .bool b⟩
  | _, _, u, .int i, r => by obtain ⟨t, rfl⟩ := (show ∃ t, u = Value.int i t from r); exact ⟨_, .int i t⟩
  | _, _, u, .str x _ _, r => by obtain ⟨t, rfl⟩ := (show ∃ t, u = Value.str x t from r); exact ⟨_, .str x t⟩
  | _, _, u, .lst (a := a) _ q _ h, r => by
    cases (show u = Value.ref a from r)
    obtain ⟨_, its, n, rv, e⟩ := I.hok a _ q
    obtain ⟨as, ra⟩ := HasAll.reads I h rv
    exact ⟨_, .list e rfl rfl (by simpa using ra)⟩
  | _, _, u, .tup (a := a) _ q _ h, r => by
    cases (show u = Value.ref a from r)
    obtain ⟨_, its, rv, ⟨o, e, c, n, d⟩⟩ := I.hok a _ q
    obtain ⟨as, ra⟩ := HasAll.reads I h rv
    exact ⟨_, .tuple e c d (by simpa using ra)⟩
theorem HasAll.reads (I : Inv X pins σ H s) : ∀ {vs : List V} {ds : List PyData} {us : List Value}, HasAll G H vs ds → Vals vs us → ∃ as, ReadsAll s.heap us ds as
  | _, _, _, .nil, .nil => ⟨_, .nil⟩
  | _, _, _, .cons h t, .cons r rr => by
    obtain ⟨as, ra⟩ := Has.reads I h r
    obtain ⟨bs, rb⟩ := HasAll.reads I t rr
    exact ⟨_, .cons ra rb⟩
end
end
theorem Has.shaped {G : Addr → Prop} {H : Hp} {v : V} {d : PyData} (h : Has G H v d) (hd : d.depth ≤ 64) : SeqAt.shaped d = true := by
  unfold SeqAt.shaped
  rw [h.lay, decide_eq_true hd]
  rfl
noncomputable def rNeD : R2 := fun x y H Q => ∃ d e, Has Any H x d ∧ Has Any H y e ∧ d.depth ≤ 64 ∧ e.depth ≤ 64 ∧ Q (.bl (!PyData.eqv d e)) H
theorem op_neD {X : Cx} (hu : X.A.units + 64 < cLine) : OpR X (compareOp .NotEq) rNeD := by
  intro pins s σ H x y u v Q I rx ry h
  obtain ⟨d, e, hd, he, sd, se, q⟩ := h
  obtain ⟨as, ra⟩ := hd.reads I rx
  obtain ⟨bs, rb⟩ := he.reads I ry
  exact ne_dataH ra rb (hd.shaped sd) (he.shaped se) hu ⟨.bl _, H, I, rfl, q⟩
theorem Has.eqv {G : Addr → Prop} {H : Hp} {v : V} {d : PyData} (h : Has G H v d) : PyData.eqv d d = true := SeqAt.eqv_refl d h.lay

/-! ### set(texts), len of it -/
section
variable {κ : Type} [DecidableEq κ]
noncomputable def dstep (acc : List κ) (x : κ) : List κ := if x ∈ acc then acc else acc ++ [x]
noncomputable def dl (l : List κ) : List κ := l.foldl dstep []
theorem dl_snoc (l : List κ) (x : κ) : dl (l ++ [x]) = dstep (dl l) x := by unfold dl; rw [List.foldl_append]; rfl
theorem foldl_dstep_mem : ∀ (l acc : List κ) (k : κ), k ∈ l.foldl dstep acc ↔ k ∈ acc ∨ k ∈ l
  | [], acc, k => by simp
  | x :: r, acc, k => by
    rw [List.foldl_cons, foldl_dstep_mem r]
    unfold dstep
    by_cases h : x ∈ acc
    · rw [if_pos h]
      constructor
      · rintro (a | a)
        · exact .inl a
        · exact .inr (List.mem_cons_of_mem _ a)
      · rintro (a | a)
        · exact .inl a
        · rcases List.mem_cons.mp a with rfl | a
          · exact .inl h
          · exact .inr a
    · rw [if_neg h]
      simp only [List.mem_append, List.mem_cons, List.not_mem_nil, or_false]
      constructor
      · rintro ((a | a) | a)
        · exact .inl a
        · exact .inr (.inl a)
        · exact .inr (.inr a)
      · rintro (a | a | a)
        · exact .inl (.inl a)
        · exact .inl (.inr a)
        · exact .inr a
theorem mem_dl {l : List κ} {k : κ} : k ∈ dl l ↔ k ∈ l := by unfold dl; rw [foldl_dstep_mem]; simp
theorem foldl_dstep_len : ∀ (l acc : List κ), (l.foldl dstep acc).length ≤ acc.length + l.length
  | [], acc => Nat.le_refl _
  | x :: r, acc => by
    rw [List.foldl_cons]
    refine Nat.le_trans (foldl_dstep_len r _) ?_
    unfold dstep
    split
    · rw [List.length_cons]; omega
    · simp only [List.length_append, List.length_cons, List.length_nil]; omega
theorem dl_len_le (l : List κ) : (dl l).length ≤ l.length := by have := foldl_dstep_len l []; simpa [dl] using this
theorem foldl_dstep_nodup : ∀ (l acc : List κ), (∀ x ∈ l, x ∉ acc) → l.Nodup → (l.foldl dstep acc).length = acc.length + l.length
  | [], acc, _, _ => rfl
  | x :: r, acc, h, hn => by
    obtain ⟨h1, h2⟩ := List.nodup_cons.mp hn
    have hx : x ∉ acc := h x List.mem_cons_self
    rw [List.foldl_cons, show dstep acc x = acc ++ [x] from if_neg hx, foldl_dstep_nodup r _ (fun y hy m => ?_) h2]
    · simp; omega
    · rcases List.mem_append.mp m with m | m
      · exact h y (List.mem_cons_of_mem _ hy) m
      · rw [List.mem_singleton.mp m] at hy; exact h1 hy
theorem foldl_dstep_dup : ∀ (l acc : List κ), ((∃ x ∈ l, x ∈ acc) ∨ ¬ l.Nodup) → (l.foldl dstep acc).length < acc.length + l.length
  | [], acc, h => by
    rcases h with ⟨x, hx, _⟩ | h
    · simp at hx
    · exact absurd List.nodup_nil h
  | x :: r, acc, h => by
    rw [List.foldl_cons]
    by_cases hx : x ∈ acc
    · rw [show dstep acc x = acc from if_pos hx]
      have := foldl_dstep_len r acc
      simp only [List.length_cons]
      omega
    · rw [show dstep acc x = acc ++ [x] from if_neg hx]
      have ih := foldl_dstep_dup r (acc ++ [x]) ?_
      · simp only [List.length_append, List.length_cons, List.length_nil] at *
        omega
      · rcases h with ⟨y, hy, ha⟩ | h
        · rcases List.mem_cons.mp hy with rfl | hy
          · exact absurd ha hx
          · exact .inl ⟨y, hy, List.mem_append_left _ ha⟩
        · by_cases hr : x ∈ r
          · exact .inl ⟨x, hr, by simp⟩
          · exact .inr fun z => h (List.nodup_cons.mpr ⟨hr, z⟩)
theorem dl_len_iff (l : List κ) : decide ((dl l).length = l.length) = decide l.Nodup := by
  by_cases h : l.Nodup
  · have := foldl_dstep_nodup l [] (fun _ _ z => by simp at z) h
    rw [decide_eq_true h, decide_eq_true (by simpa [dl] using this)]
  · have := foldl_dstep_dup l [] (.inr h)
    rw [decide_eq_false h, decide_eq_false (by simp [dl] at *; omega)]

variable {prog : Program} {w : World} {A : Around} {R : Result → Shared → Prop} {I : Addr} {fp wr : List Addr} {n : Nat} {P : Nat → Value → Prop} {St : Nat → Heap → Prop}
theorem SetOf_eqv {knd : KeyKind prog w κ} {h : Heap} {a : Addr} {S S' : κ → Bool} {m m' : Nat} (x : h.SetOf knd a S m) (e : ∀ k, S k = S' k) (em : m = m') : h.SetOf knd a S' m' := by
  have e' : S = S' := funext e
  subst e' em
  exact x
theorem set_loopK (W : Walks prog w A.in1 I fp wr n P St) {D : Addr} (hD : D ∉ fp) {knd : KeyKind prog w κ} {ks : List κ} (hn : ks.length = n) (hval : ∀ i v k, P i v → ks[i]? = some k → knd.is k v = true ∧ v.scannable = true) (hb : n + 1 < scanBound) :
    ∀ (j i : Nat) (z : Shared), n - i = j → i ≤ n → St i z.heap → z.heap.SetOf knd D (fun k => decide (k ∈ ks.take i)) (dl (ks.take i)).length →
      (∀ h' tk, (∀ b o, b ∉ D :: wr → z.heap.get? b = some o → h'.get? b = some o) → h'.SetOf knd D (fun k => decide (k ∈ ks)) (dl ks).length → R (.ok (.ret .none)) { z with heap := h', toks := tk }) →
      codeAny (model prog w) A (.builtin "set.update.loop" ⟨[.ref D, .ref I], []⟩) R z := by
  have hDw : D ∉ wr := fun h => hD (W.sub _ h)
  intro j
  induction j with
  | zero =>
    intro i z hj hi st hS hR
    obtain rfl : i = n := by omega
    refine codeAny_builtin PyProof.Rows.F.entry_set_update_loop ?_
    rw [Around.under_plainId PyProof.Rows.F.plain_set_update_loop _]
    show wpAny _ A.in1 (pyNext (.ref I) >>= _) _ _ z
    refine wpAny_bind (W.done z _ _ st fun h' tk kk => ?_)
    rw [List.take_of_length_le (Nat.le_of_eq hn)] at hS
    obtain ⟨o, es, ep, t, ho, more⟩ := hS
    exact wpAny_pure (hR h' tk (fun b o hb e => kk b o (fun m => hb (List.mem_cons_of_mem _ m)) e) ⟨o, es, ep, t, kk D _ hDw ho, more⟩)
  | succ j ih =>
    intro i z hj hi st hS hR
    have lt : i < n := by omega
    refine codeAny_builtin PyProof.Rows.F.entry_set_update_loop ?_
    rw [Around.under_plainId PyProof.Rows.F.plain_set_update_loop _]
    show wpAny _ A.in1 (pyNext (.ref I) >>= _) _ _ z
    refine wpAny_bind (W.item i z _ _ lt st fun v h1 tk1 hP st1 k1 => ?_)
    have hk : ks[i]? = some (ks[i]'(by omega)) := List.getElem?_eq_getElem _
    obtain ⟨hv, hs⟩ := hval i v _ hP hk
    obtain ⟨o, es, ep, t, ho, more⟩ := hS
    have hS1 : h1.SetOf knd D (fun k => decide (k ∈ ks.take i)) (dl (ks.take i)).length := ⟨o, es, ep, t, k1 D _ hDw ho, more⟩
    show wpAny _ A.in1 (holding [v] (setAdd D v) >>= _) _ _ _
    refine wpAny_bind (wpAny_holding ?_)
    unfold setAdd
    refine wpAny_holding (wpAny_bind (knd.pyHash hv ?_))
    have room : (dl (ks.take i)).length + 1 < scanBound := by
      have a1 := dl_len_le (ks.take i)
      have a2 : (ks.take i).length ≤ i := List.length_take_le _ _
      omega
    refine wpAny_setAddHashed_of (knd := knd) (s := { z with heap := h1, toks := tk1 + 1 }) hv hs hS1 room fun h2 sb2 hS2 => ?_
    have et : ks.take (i + 1) = ks.take i ++ [ks[i]'(by omega)] := by rw [List.take_add_one, hk]; rfl
    have hS3 : h2.SetOf knd D (fun k => decide (k ∈ ks.take (i + 1))) (dl (ks.take (i + 1))).length := by
      refine SetOf_eqv hS2 (fun k => ?_) ?_
      · rw [et, Bool.eq_iff_iff]
        simp only [Bool.or_eq_true, decide_eq_true_eq, List.mem_append, List.mem_singleton]
      · rw [et, dl_snoc]
        unfold dstep
        by_cases q : ks[i]'(by omega) ∈ ks.take i
        · rw [if_pos (by simpa using q), if_pos (mem_dl.mpr q)]
        · rw [if_neg (by simpa using q), if_neg (fun z => q (mem_dl.mp z)), List.length_append, List.length_singleton]
    refine wpAny_pure ⟨plainId_quiet PyProof.Rows.F.plain_set_update_loop _, ih (i + 1) _ (by omega) lt (W.frame _ h1 _ st1 fun b hb o e => ?_) hS3 fun h' tk kk hS' => hR h' tk (fun b o hb e => kk b o hb ?_) hS'⟩
    · rw [sb2.2 b (fun q : b = D => hD (by rw [← q]; exact hb))]; exact e
    · rw [sb2.2 b (fun q : b = D => hb (by rw [q]; exact List.mem_cons_self))]; exact k1 b o (fun m => hb (List.mem_cons_of_mem _ m)) e
end
end L2
-- MOD Ex3
/-! set(..) of a list whose items are scanned keys; len of it. -/
namespace L2
open PySem PySem.Spec PyProof.Rows
noncomputable abbrev bareSet (b : Bool) : Obj := { cls := .type "set", dict := none, data := .set #[] 0 (.fresh 0 0 b) }
section
variable {κ : Type} [DecidableEq κ] {prog : Program} {w : World} {A : Around} {E : Value → Shared → Prop} {z : Shared}
noncomputable def SetMade (knd : KeyKind prog w κ) (ks : List κ) (z : Shared) (r : Value) (z' : Shared) : Prop :=
  r = .none ∧ ∃ h' tk, z' = { z with heap := h', toks := tk } ∧ h'.SetOf knd z.heap.objs.size (fun k => decide (k ∈ ks)) (dl ks).length ∧ ∀ b o, b < z.heap.objs.size → z.heap.get? b = some o → h'.get? b = some o
set_option maxHeartbeats 6400000 in
theorem call_setK {knd : KeyKind prog w κ} {l : Addr} {its : Array Value} {ks : List κ} {Q : Value → Shared → Prop} (hh : A.handled = none) (hl : z.heap.IsList l its) (hn : ks.length = its.size)
    (hv : ∀ (i : Nat) (v : Value) (k : κ), its[i]? = some v → ks[i]? = some k → knd.is k v = true ∧ v.scannable = true) (hb : its.size + 1 < scanBound)
    (h : ∀ z', SetMade knd ks z .none z' → Q (.ref z.heap.objs.size) z') : wpAny (model prog w) A (call (.type "set") [.ref l]) Q E z := by
  obtain ⟨mc, mt, m0⟩ := PySem.F.called_set.mro
  have m1 := PySem.F.called_set.made
  have m2 := PySem.F.called_set.sub
  refine wpAny_call (codeAny_of_tree ?_)
  show wpAny _ _ (callAny (.type "set") _) _ _ _
  refine wpAny_pure ⟨Code.quiet_builtin _ (by decide +kernel), codeAny_builtin PySem.F.entry_type_call ?_⟩
  rw [Around.under_plain (weight_type_call_type "set" [.ref l] []) rfl]
  have m3 := PySem.F.called_set.notType
  have m4 := PySem.F.called_set.canCreate
  have m5 := PySem.F.typeCall_set_1 (.ref l)
  repeat (any_goals (first | assumption | wp_step))
  refine codeAny_mono (code_set_new_1 (.ref l) (E := E) (Q₁ := fun r z1 => ∃ b : Bool, r = .ref z.heap.objs.size ∧ z1 = { z with heap := z.heap.push (bareSet b) }) fun b => ⟨b, rfl, rfl⟩) fun r z1 hr => ?_
  cases r with
  | error e => exact hr
  | ok fl =>
    cases fl with
    | next => exact hr.elim
    | brk => exact hr.elim
    | cont => exact hr.elim
    | ret r =>
      obtain ⟨b, rfl, rfl⟩ := hr
      have g0 : (z.heap.push (bareSet b)).get? z.heap.objs.size = some (bareSet b) := Heap.get?_push_size _ rfl
      have ty : Shared.TypeIs { z with heap := z.heap.push (bareSet b) } (.ref z.heap.objs.size) "set" := ⟨_, g0, rfl⟩
      have i1 := PySem.F.called_set.init.lookup
      have i2 := PySem.F.called_set.init.bind (.ref z.heap.objs.size)
      repeat (any_goals (first | assumption | wp_step))
      refine codeAny_mono (codeAny_call_builtin (R := wants (SetMade knd ks z) E) PySem.F.called_set.init.plain PySem.F.entry_set_init (check_set_init_1 ty ?_)) fun r2 z2 hr2 => ?_
      · obtain ⟨⟨oc, od, odt, osl⟩, ho, c1, nl, d1⟩ := hl
        simp only at c1 d1
        subst c1 d1
        have ho1 : (z.heap.push (bareSet b)).get? l = some { cls := .type "list", dict := od, data := .seq its nl, slots := osl } := Heap.get?_push_of_some _ ho
        have s1 := PySem.F.sub_list_set
        have s2 := PySem.F.sub_list_frozenset
        have s3 : (Value.type "list" == Value.type "dict") = false := by decide
        have hl1 : (z.heap.push (bareSet b)).IsList l its := ⟨_, ho1, rfl, nl, rfl⟩
        unfold Builtin.«set.__init__» noKeywords Builtin.Frozenset.updateFrom
        generalize ePI : pyIter = PI
        wp_walk
        subst ePI
        refine wpAny_pyIter_list hl1 ?_
        refine wpAny_bind (wpAny_runValue ?_)
        have lt : l < z.heap.objs.size := Heap.lt_size ho
        have sz1 : (z.heap.push (bareSet b)).objs.size = z.heap.objs.size + 1 := Heap.size_push _ _
        have neI : l ≠ (z.heap.push (bareSet b)).objs.size := by rw [sz1]; exact Nat.ne_of_lt (Nat.lt_succ_of_lt lt)
        have nD : z.heap.objs.size ∉ [(z.heap.push (bareSet b)).objs.size, l] := by
          rw [sz1]
          simp only [List.mem_cons, List.not_mem_nil, or_false, not_or]
          exact ⟨Nat.ne_of_lt (Nat.lt_succ_self _), Nat.ne_of_gt lt⟩
        refine set_loopK (Walks.list (by simp [hh]) _ l neI its) nD (knd := knd) (ks := ks) hn hv hb (its.size - 0) 0 _ (by omega) (Nat.zero_le _) ⟨⟨_, Heap.get?_push_size _ rfl, rfl, rfl⟩, hl1.push _⟩ ?_ fun h' tk kk hS => ?_
        · refine SetOf_eqv ((PyProof.Rows.setObjOf_fresh (knd := knd) b).setOf (Heap.get?_push_of_some _ g0) (by unfold scanBound; omega)) (fun k => ?_) rfl
          simp
        · show wpAny _ _ _ _ _ _
          refine wpAny_pure ?_
          show wpAny _ _ (ret Value.none) _ _ _
          refine wpAny_pure ⟨rfl, h', tk, rfl, hS, fun c o hc e => kk c o ?_ (Heap.get?_push_of_some _ (Heap.get?_push_of_some _ e))⟩
          rw [sz1]
          simp only [List.mem_cons, List.not_mem_nil, or_false, not_or]
          exact ⟨Nat.ne_of_lt hc, Nat.ne_of_lt (Nat.lt_succ_of_lt hc)⟩
      · cases r2 with
        | error e => exact hr2
        | ok fl2 =>
          cases fl2 with
          | next => exact hr2.elim
          | brk => exact hr2.elim
          | cont => exact hr2.elim
          | ret r =>
            have hs := hr2
            obtain ⟨rfl, h', tk, rfl, hS, kk⟩ := hr2
            repeat (any_goals (first | assumption | wp_step))
            exact h _ hs
end
noncomputable def SetS (P : Program) (w : World) (p : Addr) (ks : List Str) : HO := .ext fun h => h.SetOf (strKind P w) p (fun k => decide (k ∈ ks)) (dl ks).length
section
variable {X : Cx}
theorem strs_get : ∀ {ks : List Str} {us : List Value} {i : Nat} {v : Value} {k : Str}, Vals (ks.map V.str) us → us[i]? = some v → ks[i]? = some k → ∃ t, v = Value.str k t
  | [], _, i, v, k, .nil, h, _ => by simp at h
  | b :: r, _, 0, v, k, .cons a t, h, hk => by
    simp at h hk
    subst h hk
    exact a
  | b :: r, _, i + 1, v, k, .cons a t, h, hk => strs_get (ks := r) (i := i) t (by simpa using h) (by simpa using hk)
theorem call_set_strs (hc : X.calm = true) : CallR X (.type "set") (fun xs H Q => ∃ (p : Addr) (ks : List Str), xs = [.ref p] ∧ SqL X.K H p (ks.map V.str) ∧ ks.length ≤ 4000 ∧ ∀ d, H d = none → Q (.ref d) (upd H d (SetS X.prog X.w d ks))) := by
  intro pins s σ H xs us Q I r h
  obtain ⟨p, ks, rfl, hp, hz, q⟩ := h
  obtain ⟨u, rfl, ru⟩ := v1 r
  cases (show u = Value.ref p from ru)
  obtain ⟨its, rv, pl, _⟩ := I.list hp
  have hlen : its.length = ks.length := by rw [← rv.length, List.length_map]
  refine call_setK (knd := strKind X.prog X.w) (ks := ks) (I.ok.hd hc) pl.isList (by rw [List.size_toArray, hlen]) (fun i v k h1 h2 => ?_) (by rw [List.size_toArray, hlen]; unfold scanBound; omega) fun z' hs => ?_
  · obtain ⟨t, rfl⟩ := strs_get rv (by simpa using h1) h2
    exact ⟨strKind_is _ _ _ _, rfl⟩
  · obtain ⟨_, h', tk, rfl, hS, kk⟩ := hs
    refine ⟨.ref s.heap.objs.size, _, I.laid (t' := tk) (a := s.heap.objs.size) (o := SetS X.prog X.w s.heap.objs.size ks) (fun b o e => kk b o (Heap.lt_size e) e) (Nat.le_refl _) ?_, rfl, q _ (I.hok.fresh (Nat.le_refl _))⟩
    refine ⟨hS, ?_, fun h1 h2 hs1 k12 => ?_⟩
    · obtain ⟨o, _, _, _, e, _⟩ := hS
      exact ⟨o, e⟩
    · obtain ⟨o, es, ep, t, e, more⟩ := hs1
      exact ⟨o, es, ep, t, k12 o e, more⟩
theorem call_len_set_strs : CallR X (.builtin "len") (fun xs H Q => ∃ (d : Addr) (ks : List Str), xs = [.ref d] ∧ H d = some (SetS X.prog X.w d ks) ∧ ks.length ≤ 4000 ∧ Q (.int (dl ks).length) H) := by
  intro pins s σ H xs us Q I r h
  obtain ⟨d, ks, rfl, hd, hz, q⟩ := h
  obtain ⟨u, rfl, ru⟩ := v1 r
  cases (show u = Value.ref d from ru)
  obtain ⟨hS, _, _⟩ := I.hok d _ hd
  obtain ⟨o, es, ep, t, e, hex, hdt, _, _, hb, hf, hn⟩ := hS
  refine call_len_set e hex hdt hf ?_ ?_
  · unfold scanBound at hb; omega
  · rw [hn]
    exact ⟨.int _, H, I.tok _, ⟨_, rfl⟩, q⟩
end
end L2
-- MOD Ex4
/-! Helpers for a law's own text. -/
namespace L2
open PySem PySem.Spec PyProof.Rows
theorem ScOk.auto {X : Cx} {sc : Scope} {cl : List (Str × Addr)} {T : List Str} (h1 : closureFor sc X.env = pure cl := by rfl) (h2 : (sc.names.all fun y => y.2 != .cell) = true := by rfl) (h3 : sc.kind = .function := by rfl)
    (h4 : (sc.names.all fun x => x.2 != .local || sc.names.lookup x.1 == some .local) = true := by rfl)
    (h5 : ClOk X cl := by first | exact trivial | exact ⟨rfl, trivial⟩ | exact ⟨rfl, rfl, trivial⟩ | exact ⟨rfl, rfl, rfl, trivial⟩ | exact ⟨rfl, rfl, rfl, rfl, trivial⟩)
    (h6 : (sc.names.all fun x => x.2 != .free || ((cl.lookup x.1).isSome && (X.env.scope.names.lookup x.1 == some .cell || X.env.scope.names.lookup x.1 == some .free))) = true := by rfl)
    (h7 : (X.N.all fun x => sc.names.lookup x != some .local) = true := by rfl) : ScOk X sc cl T where
  clos := h1
  cell := fun y hy => by have := List.all_eq_true.mp h2 y hy; simpa using this
  kind := h3
  names := fun x hx hl => by
    have := List.all_eq_true.mp h4 x hx
    rw [hl] at this
    simpa using this
  cls := h5
  has := fun x hx hf => by
    have := List.all_eq_true.mp h6 x hx
    rw [hf] at this
    simpa using this
  out := fun x hx => by have := List.all_eq_true.mp h7 x hx; simpa using this

theorem comp_by {J : It} {n k : Nat} {σ : St} {H : Hp} {g : TG} {tt : TT} {te : TE} {Q : VK} (Pv : Nat → List V → Hp → Prop) (h0 : Pv 0 [] H) (go : ∀ i ys H, i < n → Pv i ys H → J.go i H) (stop : ∀ ys H, Pv n ys H → J.stop n H)
    (hz : ∀ i ys H, i ≤ n → Pv i ys H → ys.length ≤ sizeLine)
    (hs : ∀ i ys H x H', i < n → Pv i ys H → J.yld i H x H' → ∀ N : List V → Hp → Prop, (∀ ys H, Pv (i + 1) ys H → N ys H) → g x (σ ++ List.replicate k none) H' fun σ2 H2 => tt σ2 H2 fun b H3 => if b = true then te σ2 H3 fun y H4 => N (ys ++ [y]) H4 else N ys H3)
    (hd : ∀ ys H, Pv n ys H → ∀ p, H p = none → Q (.ref p) (upd H p (.lst ys))) : CompGoal J k σ H g tt te Q := by
  refine ⟨fun i m ys H => m = n - i ∧ i ≤ n ∧ Pv i ys H, ⟨n, by simp, Nat.zero_le _, h0⟩, ?_⟩
  rintro i m ys H ⟨rfl, hi, p⟩
  by_cases lt : i < n
  · exact .inr ⟨go i ys H lt p, hz _ _ _ hi p, fun x H' y => hs i ys H x H' lt p y (fun ys' H' => ∃ m', m' < n - i ∧ m' = n - (i + 1) ∧ i + 1 ≤ n ∧ Pv (i + 1) ys' H') fun ys' H' q => ⟨n - (i + 1), by omega, rfl, lt, q⟩⟩
  · obtain rfl : i = n := by omega
    exact .inl ⟨stop _ _ p, hz _ _ _ hi p, hd _ _ p⟩
theorem comp_chars {x : Str} {k : Nat} {σ : St} {H : Hp} {g : TG} {tt : TT} {te : TE} {Q : VK} (p : Nat → Bool) (f : Nat → V) (hz : x.length ≤ sizeLine)
    (hs : ∀ c (Ry : VK) (Rn : Hp → Prop), (p c = true → Ry (f c) H) → (p c = false → Rn H) → g (.str ⟨#[c]⟩) (σ ++ List.replicate k none) H fun σ2 H2 => tt σ2 H2 fun b H3 => if b = true then te σ2 H3 Ry else Rn H3)
    (hd : ∀ q, H q = none → Q (.ref q) (upd H q (.lst ((x.cps.toList.filter p).map f)))) : CompGoal (Its x) k σ H g tt te Q := by
  have hlen : x.cps.toList.length = x.length := by rw [Array.length_toList]; rfl
  refine comp_by (J := Its x) (n := x.length) (fun i ys H' => H' = H ∧ ys = ((x.cps.toList.take i).filter p).map f) ⟨rfl, rfl⟩ (fun i ys H' lt _ => lt) (fun ys H' _ => Nat.le_refl _) (fun i ys H' hi q => ?_) ?_ ?_
  · obtain ⟨_, rfl⟩ := q
    rw [List.length_map]
    have a := List.length_filter_le p (x.cps.toList.take i)
    have b := List.length_take_le i x.cps.toList
    omega
  · rintro i ys H' v H2 lt ⟨rfl, rfl⟩ ⟨rfl, c, hc, rfl⟩ N hN
    have hc' : x.cps.toList[i]? = some c := by rw [Array.getElem?_toList]; exact hc
    refine hs c _ _ (fun e => hN _ _ ⟨rfl, ?_⟩) (fun e => hN _ _ ⟨rfl, ?_⟩)
    · rw [List.take_add_one, hc', List.filter_append]
      simp [e]
    · rw [List.take_add_one, hc', List.filter_append]
      simp [e]
  · rintro ys H' ⟨rfl, rfl⟩ q hq
    rw [← hlen, List.take_length]
    exact hd q hq

theorem comp_list {K : PySem.W.Frag} {a : Addr} {xs : List V} {k : Nat} {σ : St} {H : Hp} {g : TG} {tt : TT} {te : TE} {Q : VK} (Pv : Nat → List V → Hp → Prop) (h0 : Pv 0 [] H) (hl : ∀ i ys H, Pv i ys H → SqL K H a xs)
    (hz : ∀ i ys H, i ≤ xs.length → Pv i ys H → ys.length ≤ sizeLine)
    (hs : ∀ i x ys H, xs[i]? = some x → Pv i ys H → ∀ N : List V → Hp → Prop, (∀ ys H, Pv (i + 1) ys H → N ys H) → g x (σ ++ List.replicate k none) H fun σ2 H2 => tt σ2 H2 fun b H3 => if b = true then te σ2 H3 fun y H4 => N (ys ++ [y]) H4 else N ys H3)
    (hd : ∀ ys H, Pv xs.length ys H → ∀ p, H p = none → Q (.ref p) (upd H p (.lst ys))) : CompGoal (Itl K a) k σ H g tt te Q := by
  refine comp_by (J := Itl K a) (n := xs.length) Pv h0 (fun i ys H lt p => ⟨xs, xs[i], hl i ys H p, List.getElem?_eq_getElem lt⟩) (fun ys H p => ⟨xs, hl _ ys H p, Nat.le_refl _⟩) hz ?_ hd
  rintro i ys H x H' lt p ⟨rfl, y⟩ N hN
  exact hs i x ys _ (y xs (hl _ _ _ p)) p N hN
theorem comp_range {lo : Int} {n k : Nat} {σ : St} {H : Hp} {g : TG} {tt : TT} {te : TE} {Q : VK} (Pv : Nat → List V → Hp → Prop) (h0 : Pv 0 [] H)
    (hz : ∀ i ys H, i ≤ n → Pv i ys H → ys.length ≤ sizeLine)
    (hs : ∀ i ys H, i < n → Pv i ys H → ∀ N : List V → Hp → Prop, (∀ ys H, Pv (i + 1) ys H → N ys H) → g (.int (lo + i)) (σ ++ List.replicate k none) H fun σ2 H2 => tt σ2 H2 fun b H3 => if b = true then te σ2 H3 fun y H4 => N (ys ++ [y]) H4 else N ys H3)
    (hd : ∀ ys H, Pv n ys H → ∀ p, H p = none → Q (.ref p) (upd H p (.lst ys))) : CompGoal (Itr lo n) k σ H g tt te Q := by
  refine comp_by (J := Itr lo n) (n := n) Pv h0 (fun i ys H lt p => lt) (fun ys H p => Nat.le_refl _) hz ?_ hd
  rintro i ys H x H' lt p ⟨rfl, rfl⟩ N hN
  exact hs i ys _ lt p N hN

theorem pick {A B : St → Hp → Prop} {σ : St} {H : Hp} {i : Nat} {x : V} (h : A (σ.set i (some x)) H) : gName i x σ H fun σ2 H2 => tYes σ2 H2 fun b H3 => if b = true then A σ2 H3 else B σ2 H3 := by
  show if true = true then A (σ.set i (some x)) H else B (σ.set i (some x)) H
  rw [if_pos rfl]
  exact h
theorem Fun.okC {P : Program} {w : World} {K : PySem.W.Frag} {mg : Str → Option Value} {base : Heap} {CX : CXT} {x qual : Str} {st : Stmt} {f : Addr} {fd : FuncData} {N ps : List Str} {k : Nat} {sp : Sp} (F : Fun K x qual st f fd) (S : FnScope N ps (defScope st)) (len : ∀ vs H Q E, sp vs H Q E → vs.length = ps.length)
    (hbody : ∀ (cdv : Value) (A : Around) (outer : List Env) (s : Shared) (H : Hp) (vs : List V) (Q : VK) (E : XK), Room k (A.deeper (envOfC qual (defScope st) s.heap.objs.size f cdv)) → sp vs H Q E →
      ∃ t, PSs (cxOf CX P w K mg base N qual (defScope st) f cdv A outer s H E).nox (defBody st) t ∧ t { nx := fun _ H' => Q .non H', rt := Q } (start N vs) H) : FnOk P w K mg base CX (k + 1) f fd ps sp := by
  obtain ⟨oc, od, kV, doc, pm, an, cdv, ct, osl, rfl, lk, hcd⟩ := F.ex
  refine fn_of lk hcd S len fun A outer s H vs Q E hr hsp => ?_
  obtain ⟨t, h, q⟩ := hbody cdv A outer s H vs Q E hr hsp
  exact ⟨t, h.nox, q⟩
noncomputable def Calm (CX : CXT) : Prop := ∀ o H s e s', CX o H s (fun _ _ _ => False) e s' → False
theorem passC {CX : CXT} (h : Calm CX) {X : Cx} : Passes CX X E0 := fun _ _ _ _ _ _ _ q => (h _ _ _ _ _ q).elim
structure Def (K : PySem.W.Frag) (mg : Str → Option Value) (x : Str) (st : Stmt) (ps : List Str) (f : Addr) (fd : FuncData) : Prop where
  fn : Fun K x x st f fd
  at_ : mg x = some (.ref f)
  bind : Binds K fd ps []
theorem Same.new {H : Hp} {p : Addr} {o : HO} (h : H p = none) : Same H (upd H p o) := fun b u e => by rw [upd_ne (ne_of_none e h)]; exact e
end L2
-- MOD Ex5
/-! zip, tuple targets, join, index, whole slices backwards, t + u from nothing. -/
namespace L2
open PySem PySem.Spec PyProof.Rows
section
variable {X : Cx} {pins : List (Addr × Obj)} {σ : St} {H : Hp} {s : Shared}
theorem Inv.adopt {T : Addr} {o : HO} (I : Inv X pins σ H s) (hn : H T = none) (h1 : X.s₀.heap.objs.size ≤ T) (hL : T ≠ X.env.locals) (h2 : ∀ x c, X.env.cells.lookup x = some c → c ≠ T) (h3 : ∀ p ∈ X.pn ++ pins, p.1 ≠ T)
    (new : ObjOk X.prog X.w (upd H T o) s.heap T o) : Inv X pins σ (upd H T o) s := by
  refine I.step (h' := s.heap) (g' := s.gens) (d' := s.drawn) (t' := s.toks) (ch := [T]) (fun b hb => ?_) (fun b o _ _ _ e _ => e) (fun b o _ _ _ e _ => ⟨o.slots, e⟩) (fun b o hc e n => ?_) (fun b o _ e => ⟨o, e⟩)
    (fun b xs e => ?_) (fun b o u e => ?_) (fun b ps e => ⟨#[], ?_⟩) (fun m h => h) (fun b u e => ?_) I.bare
  · have e : b = T := by simpa using hb
    subst e
    exact ⟨.inr (Heap.get?_none_of_le h1), hL, h2, h3⟩
  · rw [upd_ne (fun z => hc (by simp [z]))]
    exact n
  · rw [upd_ne (ne_of_none e hn)]; exact e
  · rw [upd_ne (ne_of_none e hn)]; exact e
  · rw [upd_ne (ne_of_none e hn), e]; simp
  · by_cases hb : b = T
    · subst hb
      rw [upd_same] at e
      cases e
      exact new
    · rw [upd_ne hb] at e
      exact (I.hok b u e).stay (fun c v _ q => q) (fun c q => by rw [upd_ne (ne_of_none q hn)]; exact q) fun c xs q => by rw [upd_ne (ne_of_none q hn)]; exact q
theorem Inv.turns {h' : Heap} {t' : Nat} {ch : List Addr} (I : Inv X pins σ H s) (k : ∀ b o, b ∉ ch → s.heap.get? b = some o → h'.get? b = some o) (hf : ∀ b ∈ ch, FpOk X pins H b) : Inv X pins σ H { s with heap := h', toks := t' } := by
  have nit : ∀ b u, H b = some u → b ∉ ch := fun b u e z => by rw [(hf b z).1] at e; cases e
  refine I.step (g' := s.gens) (d' := s.drawn) (ch := ch) (fun b hb => ⟨(hf b hb).2.2.2.1.imp_right fun z => Heap.get?_none_of_le z, (hf b hb).2.1, (hf b hb).2.2.2.2.1, (hf b hb).2.2.2.2.2⟩) (fun b o _ _ hc e _ => k b o hc e) (fun b o _ _ hc e _ => ⟨o.slots, k b o hc e⟩) (fun _ _ _ _ n => n)
    (fun b o hc e => ⟨o, k b o hc e⟩) (fun _ _ e => e) (fun _ _ _ e => e) (fun b ps e => ⟨#[], by rw [e]; simp⟩) (fun m hm => ?_) (fun b u e => ?_) I.bare
  · obtain ⟨o, es, ep, ho, r⟩ := hm
    exact ⟨o, es, ep, k _ o (fun z => (hf _ z).2.1 rfl) ho, r⟩
  · refine (I.hok b u e).stay (fun c v hc q => k c v ?_ q) (fun _ q => q) fun _ _ q => q
    rcases hc with z | z
    · rw [z]; exact nit b u e
    · exact nit c _ z
end
noncomputable def Itz (K : PySem.W.Frag) (a b : Addr) : It :=
  ⟨fun i H => ∃ xs ys x y, SqL K H a xs ∧ SqL K H b ys ∧ xs[i]? = some x ∧ ys[i]? = some y,
   fun i H v H' => ∃ p x y, v = .ref p ∧ H p = none ∧ H' = upd H p (.tup [x, y]) ∧ (∀ xs, SqL K H a xs → xs[i]? = some x) ∧ ∀ ys, SqL K H b ys → ys[i]? = some y,
   fun i H => ∃ xs ys, SqL K H a xs ∧ SqL K H b ys ∧ (xs.length ≤ i ∨ ys.length ≤ i)⟩
theorem turn_zip {P : Program} {w : World} {K : PySem.W.Frag} {es : List Expr} {x1 : _} {pos : Pos} {l1 l2 z TI TO i1 i2 : Addr} (D : ZipApart z TI TO i1 i2 l1 l2) :
    Turn P w K (.Tuple es x1 pos) (Itz K l1 l2) [z, TO, i1, i2, TI] z (fun i h => IsZip h z TI TO .none ∧ IsPair h TI (.ref i1) (.ref i2) ∧ (∃ a b, IsPair h TO a b) ∧ h.IsListIter i1 l1 i ∧ h.IsListIter i2 l2 i) where
  mem := by simp
  obj := fun i h st b hb => by
    obtain ⟨h1, h2, ⟨a, c, h3⟩, ⟨o4, h4, _, d4⟩, ⟨o5, h5, _, d5⟩⟩ := st
    simp only [List.mem_cons, List.not_mem_nil, or_false] at hb
    rcases hb with rfl | rfl | rfl | rfl | rfl
    · exact ⟨_, h1, fun v q => by cases (show Data.fields _ = Data.cell v from q)⟩
    · exact ⟨_, h3, fun v q => by cases (show Data.seq _ _ = Data.cell v from q)⟩
    · exact ⟨_, h4, fun v q => by rw [d4] at q; cases q⟩
    · exact ⟨_, h5, fun v q => by rw [d5] at q; cases q⟩
    · exact ⟨_, h2, fun v q => by cases (show Data.seq _ _ = Data.cell v from q)⟩
  keep := fun i h h' st k => by
    obtain ⟨h1, h2, ⟨a, c, h3⟩, h4, h5⟩ := st
    exact ⟨k z (by simp) _ h1, k TI (by simp) _ h2, ⟨a, c, k TO (by simp) _ h3⟩, h4.at fun o e => k i1 (by simp) o e, h5.at fun o e => k i2 (by simp) o e⟩
  item := by
    intro X hP hw hK hc i pins s σ H E I hf st hg
    subst hP hw hK
    obtain ⟨h1, h2, ⟨a, c, h3⟩, h4, h5⟩ := st
    obtain ⟨xs, ys, x, y, qx, qy, ex, ey⟩ := hg
    obtain ⟨its, rx, px, _⟩ := I.list qx
    obtain ⟨jts, ry, py, _⟩ := I.list qy
    obtain ⟨u, hu, ru⟩ := rx.get ex
    obtain ⟨v, hv, rv⟩ := ry.get ey
    refine wpAny_pyNext_zip_item D h1 h2 h3 h4 h5 px.isList py.isList (by simpa using hu) (by simpa using hv) fun h' a1 a2 a3 a4 a5 a6 a7 => ?_
    refine ⟨_, rfl, wpAny_letOwnedTupleGo_zip a1 fun h2' b1 sb => ?_⟩
    have nz : s.heap.objs.size ≠ z := fun e => by have := Heap.lt_size h1; rw [← e] at this; exact Nat.lt_irrefl _ this
    have J : Inv X pins σ H { s with heap := h2' } := I.turns (t' := s.toks) (ch := [z, TO, i1, i2, TI]) (fun b o hb e => by
      simp only [List.mem_cons, List.not_mem_nil, or_false, not_or] at hb
      exact (sb.2 b hb.1).trans (a7 b o hb.1 hb.2.1 hb.2.2.1 hb.2.2.2.1 e)) hf
    have gT : h2'.get? s.heap.objs.size = some { cls := .type "tuple", data := .seq #[u, v] } := (sb.2 _ nz).trans a5
    have fT : H s.heap.objs.size = none := I.hok.fresh (Nat.le_refl _)
    have J2 : Inv X pins σ (upd H s.heap.objs.size (.tup [x, y])) { s with heap := h2' } := J.adopt fT I.sz (Nat.ne_of_gt I.lt) (fun n c e => by
        obtain ⟨w', q⟩ := I.cell n c e
        exact Nat.ne_of_lt q.lt) (fun p hp => Nat.ne_of_lt (Heap.lt_size (I.pin p hp).1)) ⟨by show 2 ≤ sizeLine; decide, [u, v], .cons ru (.cons rv .nil), ⟨_, gT, rfl, _, rfl⟩⟩
    have keepB : ∀ b o, b ≠ z → h'.get? b = some o → h2'.get? b = some o := fun b o hb e => (sb.2 b hb).trans e
    refine ⟨.ref s.heap.objs.size, _, J2, rfl, ⟨_, x, y, rfl, fT, rfl, fun zs hz => by rw [I.list_inj hz qx]; exact ex, fun zs hz => by rw [I.list_inj hz qy]; exact ey⟩, ⟨b1, keepB _ _ D.TIz (a7 _ _ D.TIz D.TITO D.TIi1 D.TIi2 h2), ⟨_, _, keepB _ _ D.TOz a2⟩, a3.at fun o e => keepB _ _ D.i1z e, a4.at fun o e => keepB _ _ D.i2z e⟩, fun b hb => ?_⟩
    have hb' := (hf b hb).1
    have : b ≠ s.heap.objs.size := by
      rintro rfl
      obtain ⟨o, e⟩ : ∃ o, s.heap.get? s.heap.objs.size = some o := by
        simp only [List.mem_cons, List.not_mem_nil, or_false] at hb
        rcases hb with e | e | e | e | e <;> rw [e]
        · exact ⟨_, h1⟩
        · exact ⟨_, h3⟩
        · obtain ⟨o, q, _⟩ := h4; exact ⟨o, q⟩
        · obtain ⟨o, q, _⟩ := h5; exact ⟨o, q⟩
        · exact ⟨_, h2⟩
      exact Nat.lt_irrefl _ (Heap.lt_size e)
    rw [upd_ne this]
    exact hb'
  done := by
    intro X hP hw hK hc i pins s σ H E I hf st hg
    subst hP hw hK
    obtain ⟨h1, h2, ⟨a, c, h3⟩, h4, h5⟩ := st
    obtain ⟨xs, ys, qx, qy, hend⟩ := hg
    obtain ⟨its, rx, px, _⟩ := I.list qx
    obtain ⟨jts, ry, py, _⟩ := I.list qy
    have e1 := rx.length
    have e2 := ry.length
    refine wpAny_pyNext_zip_end (I.ok.hd hc) D h1 h2 h3 h4 h5 px.isList py.isList ?_ fun h' kk => ⟨rfl, I.turns (t' := s.toks) (ch := [z, TO, i1, i2, TI]) (fun b o hb e => ?_) hf⟩
    · rcases hend with q | q
      · exact .inl (by simp; omega)
      · exact .inr (by simp; omega)
    · simp only [List.mem_cons, List.not_mem_nil, or_false, not_or] at hb
      exact kk b o hb.1 hb.2.1 hb.2.2.1 hb.2.2.2.1 e
  self := fun _ _ _ _ _ st h => wpAny_pyIter_zip st.1 h
noncomputable def iZip (K : PySem.W.Frag) (ta : TA) : TI := fun σ H R => ta σ H fun vs H1 => ∃ a b, vs = [.ref a, .ref b] ∧ (∃ xs, SqL K H1 a xs) ∧ (∃ ys, SqL K H1 b ys) ∧ R (Itz K a b) H1
section
variable {X : Cx}
theorem pi_zip {es : List Expr} {x1 : _} {tp : Pos} {e1 e2 : Expr} {ta : TA} {p pos : Pos} (hg : Gl X "zip") (hm : X.mg "zip" = none) (ha : PA X [e1, e2] ta) (hs : starEach [e1, e2] X.env = [(false, eval e1 X.env), (false, eval e2 X.env)] := by rfl) (hs2 : starEach [e2] X.env = [(false, eval e2 X.env)] := by rfl) :
    PI X (.Tuple es x1 tp) (.Call (.Name "zip" p) [e1, e2] [] pos) (iZip X.K ta) := by
  intro pins s σ H R I h
  refine Call_ (ld_blt I hg hm boot_zip (PyProof.Rows.callWith_type1 (thn (ha pos pins s σ H _ I h) fun us s1 ⟨vs, H1, I1, r1, q1⟩ => ?_) (by rw [hs, hs2]) (by rw [hs2]; rfl)))
  obtain ⟨a, b, rfl, ⟨xs, qx⟩, ⟨ys, qy⟩, q⟩ := q1
  obtain ⟨u, v, rfl, ru, rv⟩ := v2 r1
  cases (show u = Value.ref a from ru)
  cases (show v = Value.ref b from rv)
  obtain ⟨its, rx, px, _⟩ := I1.list qx
  obtain ⟨jts, ry, py, _⟩ := I1.list qy
  have la : a < s1.heap.objs.size := by obtain ⟨_, e, _⟩ := px.isList; exact Heap.lt_size e
  have lb : b < s1.heap.objs.size := by obtain ⟨_, e, _⟩ := py.isList; exact Heap.lt_size e
  refine call_zip_2 px.isList py.isList fun h' a1 a2 a3 a4 a5 a6 a7 => wpAny_pyIter_zip a1 ?_
  have I2 : Inv X pins σ H1 { s1 with heap := h' } := I1.kept (t' := s1.toks) a7
  refine ⟨s1.heap.objs.size + 4, [s1.heap.objs.size + 4, s1.heap.objs.size + 3, s1.heap.objs.size, s1.heap.objs.size + 1, s1.heap.objs.size + 2], _, _, H1, rfl, I2, turn_zip (PyProof.Rows.zipApart_new la lb), ⟨a1, a2, ⟨_, _, a3⟩, a4, a5⟩, fun c hc => ?_, q⟩
  have hc' : s1.heap.objs.size ≤ c := by
    simp only [List.mem_cons, List.not_mem_nil, or_false] at hc
    rcases hc with e | e | e | e | e
    · rw [e]; exact Nat.le_add_right _ _
    · rw [e]; exact Nat.le_add_right _ _
    · rw [e]; exact Nat.le_refl _
    · rw [e]; exact Nat.le_add_right _ _
    · rw [e]; exact Nat.le_add_right _ _
  exact I1.fpOk hc' (I1.hok.fresh hc')
theorem mt_index : MtR X "str.index" (fun x xs H Q => ∃ z y i r, x = .str z ∧ xs = [.str y] ∧ Builtin.Str.occurrences z y 0 z.length 1 = i :: r ∧ Q (.int (i : Nat)) H) := by
  intro pins s σ H x xs v us Q I rx rs h
  obtain ⟨z, y, i, r, rfl, rfl, ho, q⟩ := h
  obtain ⟨t, rfl⟩ := rx
  obtain ⟨u, rfl, ru⟩ := v1 rs
  obtain ⟨t', rfl⟩ := ru
  exact PySem.SC.index ho ⟨.int _, H, I.tok _, ⟨_, rfl⟩, q⟩
theorem strs_vals : ∀ {ks : List Str} {us : List Value}, Vals (ks.map V.str) us → ∃ l : List (Str × Tok), us = strValues l ∧ l.map (·.1) = ks
  | [], _, .nil => ⟨[], rfl, rfl⟩
  | k :: r, _, .cons a t => by
    obtain ⟨tk, rfl⟩ := a
    obtain ⟨l, e1, e2⟩ := strs_vals t
    exact ⟨(k, tk) :: l, by rw [e1]; rfl, by rw [List.map_cons, e2]⟩
theorem mt_join {K : PySem.W.Frag} (hK : X.K = K) : MtR X "str.join" (fun x xs H Q => ∃ (z : Str) (p : Addr) (ks : List Str), x = .str z ∧ xs = [.ref p] ∧ SqL K H p (ks.map V.str) ∧ PySem.JoinOk z ks = true ∧ Q (.str (Txt.join z ks)) H) := by
  subst hK
  intro pins s σ H x xs v us Q I rx rs h
  obtain ⟨z, p, ks, rfl, rfl, hp, hj, q⟩ := h
  obtain ⟨t, rfl⟩ := rx
  obtain ⟨u, rfl, ru⟩ := v1 rs
  cases (show u = Value.ref p from ru)
  obtain ⟨its, rv, pl, _⟩ := I.list hp
  obtain ⟨l, rfl, el⟩ := strs_vals rv
  exact PySem.SC.join pl.isList el hj fun t' k => ⟨.str _, H, I.tok k, ⟨t', rfl⟩, q⟩
end
end L2
-- MOD Ex6
/-! Rules whose reading names the written part itself: for use within a comprehension. -/
namespace L2
open PySem PySem.Spec PyProof.Rows
section
variable {X : Cx} {K : PySem.W.Frag} {o e : Expr} {es : List Expr} {to ta tl : TE} {t : TA} {name f : Str} {apos cpos pos : Pos} {T id : String} {r : V → List V → Hp → VK → Prop} {tg : Expr}
theorem pe_bmK (hK : X.K = K) (pa : PlainAttrs T) (slot : Slot T name id) (hty : typeOf (.builtin id) = pure (.type "method_descriptor")) (hm : MtR X id r) (ho : PE X o to) (ha : PA X (e :: es) t)
    (hbase : attributeBase o name X.env (eval o X.env) = eval o X.env := by rfl)
    (hfew : ((backTo cpos (starEach (e :: es) X.env)).all (fun x => !x.1) && (backToKw cpos (keywordEach [] X.env)).all (fun x => x.1.isSome)
      && decide ((e :: es).length + ([] : List Keyword).length + (if ([] : List Keyword).isEmpty then 0 else 1) < 30)) = true := by rfl)
    (hline : (apos.endLine == cpos.line) = true := by rfl) (hs : starEach (e :: es) X.env = (false, eval e X.env) :: starEach es X.env := by rfl) (hplain : (backTo cpos (starEach es X.env)).any (·.1) = false := by rfl) :
    PE X (.Call (.Attribute o name apos) (e :: es) [] cpos) (tBM K T r to t) := by
  subst hK
  exact pe_bm pa slot hty hm ho ha hbase hfew hline hs hplain
theorem pi_listK (hK : X.K = K) {l : Expr} (hl : PE X l tl) : PI X tg l (iList K tl) := by
  subst hK
  exact pi_list hl
theorem pe_fldK (hK : X.K = K) (he : PE X e ta) (hb : attributeBase e f X.env (eval e X.env) = eval e X.env) : PE X (.Attribute e f pos) (tFld K ta f) := by
  subst hK
  exact pe_fld he hb
theorem pg_tupK (hK : X.K = K) {es : List Expr} {k : Nat} {t : TGs} {n : Nat} (hc : X.calm = true) (h : PGs X es t)
    (hn : (assignEach es X.env).length = n := by rfl) (hst : (assignEach es X.env).findIdx? (·.1) = none := by rfl) : PG X (.Tuple es k pos) (gTup K n t) := by
  subst hK
  exact pg_tup hc h hn hst
end
end L2
-- MOD Ex7
/-! Displays of constants, and of lists of constants, at once. -/
namespace L2
open PySem PySem.Spec PyProof.Rows
noncomputable def constV : Expr → Option V
  | .Constant (.int i) _ _ => some (.int i)
  | .Constant (.str x) _ _ => some (.str x)
  | .Constant (.bool b) _ _ => some (.bl b)
  | .Constant .none _ _ => some .non
  | _ => none
theorem const_pe {X : Cx} {e : Expr} {v : V} (h : constV e = some v) : PE X e (tC v) ∧ ∀ es, starEach (e :: es) X.env = (false, eval e X.env) :: starEach es X.env := by
  unfold constV at h
  split at h
  · cases h; exact ⟨pe_int, fun _ => rfl⟩
  · cases h; exact ⟨pe_str, fun _ => rfl⟩
  · cases h; exact ⟨pe_bl, fun _ => rfl⟩
  · cases h; exact ⟨pe_non, fun _ => rfl⟩
  · cases h
noncomputable def tConsts (vs : List V) : TA := fun _ H Q => Q vs H
theorem pa_consts {X : Cx} : ∀ {es : List Expr} {vs : List V}, es.map constV = vs.map some → PA X es (tConsts vs)
  | [], [], _ => pa_nil
  | [], _ :: _, h => by cases h
  | _ :: _, [], h => by cases h
  | e :: es, v :: vs, h => by
    rw [List.map_cons, List.map_cons] at h
    injection h with h1 h2
    obtain ⟨p, q⟩ := const_pe (X := X) h1
    exact pa_cons p (pa_consts h2) (q es)
noncomputable def constL : Expr → Option (List V)
  | .List es _ => es.mapM constV
  | _ => none
theorem mapM_const : ∀ {es : List Expr} {vs : List V}, es.mapM constV = some vs → es.map constV = vs.map some
  | [], vs, h => by
    rw [List.mapM_nil] at h
    cases h
    rfl
  | e :: es, vs, h => by
    rw [List.mapM_cons] at h
    cases q : constV e with
    | none => rw [q] at h; cases h
    | some v =>
      rw [q] at h
      cases r : es.mapM constV with
      | none => rw [r] at h; cases h
      | some ws =>
        rw [r] at h
        cases h
        rw [List.map_cons, List.map_cons, q, mapM_const r]
noncomputable def Laid (H H' : Hp) : List (List V) → List V → Prop := Paired fun vs r => ∃ a, r = V.ref a ∧ H a = none ∧ H' a = some (.lst vs)
theorem Laid.mono {H0 H H' H2 : Hp} (s0 : Same H0 H) (s : Same H' H2) {vss : List (List V)} {rs : List V} (h : Laid H H' vss rs) : Laid H0 H2 vss rs :=
  Paired.mapP h fun vs r ⟨a, e, n, q⟩ => ⟨a, e, s0.free n, s _ _ q⟩
noncomputable def tLists (vss : List (List V)) : TA := fun _ H Q => ∀ rs H', Same H H' → Laid H H' vss rs → Q rs H'
theorem pa_lists {X : Cx} : ∀ {es : List Expr} {vss : List (List V)}, es.map constL = vss.map some → (vss.all fun vs => decide (vs.length ≤ 1000)) = true → PA X es (tLists vss)
  | [], [], _, _ => fun pos pins s σ H Q I h => pa_nil pos pins s σ H Q I (h [] H (Same.refl _) .nil)
  | [], _ :: _, h, _ => by cases h
  | _ :: _, [], h, _ => by cases h
  | e :: es, vs :: vss, h, hz => by
    rw [List.map_cons, List.map_cons] at h
    injection h with h1 h2
    rw [List.all_cons, Bool.and_eq_true] at hz
    have ih := pa_lists (X := X) h2 hz.2
    cases e with
    | List ls lp =>
      have hc := mapM_const (show ls.mapM constV = some vs from h1)
      have pe : PE X (.List ls lp) (tLst (tConsts vs)) := pe_lst (pa_consts hc)
      intro pos pins s σ H Q I q
      refine pa_cons pe ih rfl pos pins s σ H Q I ?_
      refine ⟨Nat.le_of_lt (small1000 (of_decide_eq_true hz.1)), fun p hp rs H' s' l' => ?_⟩
      exact q _ _ ((Same.new hp).trans s') (.cons ⟨p, rfl, hp, s' _ _ upd_same⟩ (l'.mono (Same.new hp) (Same.refl _)))
    | _ => cases h1
end L2
-- MOD Ex8
/-! Tuples put together, a list backwards. -/
namespace L2
open PySem PySem.Spec PyProof.Rows
section
variable {X : Cx}
noncomputable def rRev (K : PySem.W.Frag) (te : TE) : TE := fun σ H Q => te σ H fun x H1 => ∃ a xs, x = .ref a ∧ SqL K H1 a xs ∧ ∀ p, H1 p = none → Q (.ref p) (upd H1 p (.lst xs.reverse))
theorem pe_rev {e : Expr} {te : TE} {k : Nat} {p1 p2 p3 pos : Pos} (he : PE X e te) : PE X (.Subscript e (.Slice none none (some (.UnaryOp .USub (.Constant (.int 1) k p1) p2)) p3) pos) (rRev X.K te) := by
  intro pins s σ H Q I h
  refine Subscript_ (thn (he pins s σ H _ I h) fun v s1 ⟨x, H1, I1, r1, q1⟩ => ?_)
  obtain ⟨a, xs, rfl, hx, q⟩ := q1
  cases r1
  refine wpAny_Slice ?_
  rw [evalPart_none]
  refine wpAny_pure (wpAny_pure ?_)
  rw [evalPart_some]
  refine thn (pe_un un_neg (pe_int (X := X) (i := 1)) pins s1 σ H1 (fun y H2 => y = .int (-1) ∧ H2 = H1) I1 ⟨1, rfl, rfl, rfl⟩) fun u s2 ⟨y, H2, I2, r2, ey, eh⟩ => ?_
  subst ey eh
  obtain ⟨t, rfl⟩ := r2
  have I4 : Inv X pins σ H2 { s2 with heap := s2.heap.push { cls := .type "slice", data := .fields #[.none, .none, .int (-1) t] } } := I2.kept (t' := s2.toks) fun b ob q => Heap.get?_push_of_some _ q
  obtain ⟨its, r, ht, hz⟩ := I4.list hx
  have hlen := r.length
  refine tail_any (ops := [.ref a, .ref s2.heap.objs.size]) ht.isList.typeIs slot_list_getitem.lookup ?_ (by with_unfolding_all rfl)
  refine wpAny_getItem_list_slice ht.isList (Heap.IsSliceOf.new ..) .none .none (.int _ _) (by decide) ?_ (by rw [List.size_toArray]; omega)
  rw [PySem.W.krv_pick]
  exact ⟨.ref _, _, I4.laid (t' := s2.toks) (o := .lst xs.reverse) (fun b ob q => Heap.get?_push_of_some _ q) (Nat.le_refl _) ⟨by rw [List.length_reverse]; exact hz, _, 0, r.reverse, Heap.get?_push_size _ rfl⟩, rfl, q _ (I4.hok.fresh (Nat.le_refl _))⟩
end
end L2
-- MOD Ex9
/-! min by a key of texts, over any heap. -/
namespace L2
open PySem PySem.Spec PyProof.Rows
noncomputable def Kept (h h' : Heap) : Prop := ∀ b o, h.get? b = some o → h'.get? b = some o
theorem Kept.trans {a b c : Heap} (x : Kept a b) (y : Kept b c) : Kept a c := fun p o e => y p o (x p o e)
theorem Kept.push (h : Heap) (o : Obj) : Kept h (h.push o) := fun _ _ e => Heap.get?_push_of_some _ e
theorem Kept.same {g h h' : Heap} {a : Addr} (k : Kept g h) (ha : g.objs.size ≤ a) (sb : Heap.SameBut a h h') : Kept g h' := fun b o e =>
  (sb.2 b (Nat.ne_of_lt (Nat.lt_of_lt_of_le (Heap.lt_size e) ha))).trans (k b o e)
theorem Kept.but {g h h' : Heap} {a : Addr} (k : Kept g h) (ha : g.objs.size ≤ a) (sb : ∀ b o, b ∉ [a] → h.get? b = some o → h'.get? b = some o) : Kept g h' := fun b o e =>
  sb b o (fun z => Nat.ne_of_lt (Nat.lt_of_lt_of_le (Heap.lt_size e) ha) (List.mem_singleton.mp z)) (k b o e)
noncomputable def ltS (a b : Str) : Prop := a.cps.toList < b.cps.toList
noncomputable instance (a b : Str) : Decidable (ltS a b) := inferInstanceAs (Decidable (a.cps.toList < b.cps.toList))
theorem ltS_trans {a b c : Str} (x : ltS a b) (y : ltS b c) : ltS a c := List.lt_trans x y
section
variable {P : Program} {w : World} {A : Around} {E : Value → Shared → Prop} {z : Shared} {g : Heap} {l q I S : Addr} {vs : List Value} {R : Result → Shared → Prop}
noncomputable def KeyEnd (z : Shared) (h : Heap) (k : Str) (u : Value) (y : Shared) : Prop := ∃ (h' : Heap) (tk' : Nat) (t : Tok), u = .str k t ∧ y = { z with heap := h', toks := tk' } ∧ Kept h h'
theorem min_loop (ks : Nat → Str) (hh : A.handled = none) (hl : g.IsList l vs.toArray) (hI : g.objs.size ≤ I) (hS : g.objs.size ≤ S) (ne : S ≠ I)
    (turn : ∀ i v, vs[i]? = some v → ∀ (h : Heap) (tk : Nat), Kept g h → wpAny (model P w) A.in1 (call (.ref q) [v]) (KeyEnd z h (ks i)) (fun _ _ => False) { z with heap := h, toks := tk })
    (fin : ∀ i v h tk, vs[i]? = some v → (∀ j, j < vs.length → ¬ ltS (ks j) (ks i)) → Kept g h → R (.ok (.ret v)) { z with heap := h, toks := tk }) :
    ∀ (r j i : Nat) (h : Heap) (tk : Nat) (b : Value) (t : Tok) (n : Nat), vs.length - (j + 1) = r → j + 1 ≤ vs.length → Kept g h → h.get? S = some (seqObj "list" #[b, .str (ks i) t] n) → h.IsListIter I l (j + 1) →
      vs[i]? = some b → i ≤ j → (∀ k, k ≤ j → ¬ ltS (ks k) (ks i)) → codeAny (model P w) A (.builtin "min.loop" ⟨[.ref I, .ref q, .ref S], []⟩) R { z with heap := h, toks := tk } := by
  have nm : (toString "min" ++ toString ".loop" : String) = "min.loop" := by decide
  have hlI : l ≠ I := by
    obtain ⟨o, e, _⟩ := hl
    exact Nat.ne_of_lt (Nat.lt_of_lt_of_le (Heap.lt_size e) hI)
  have W := Walks.list (prog := P) (w := w) (A := A.in1) hh I l hlI vs.toArray
  have sz : vs.toArray.size = vs.length := by simp
  have lst : ∀ {h}, Kept g h → h.IsList l vs.toArray := fun {h} k => by
    obtain ⟨o, e, r⟩ := hl
    exact ⟨o, k _ _ e, r⟩
  intro r
  induction r with
  | zero =>
    intro j i h tk b t n hr hj k hs it hb hij best
    have hin : j + 1 = vs.length := by omega
    refine codeAny_builtin PySem.F.entry_min_loop ?_
    rw [Around.under_plainId PySem.F.plain_min_loop _]
    show wpAny _ A.in1 (seqItems? (Value.ref S) >>= _) _ _ _
    refine wpAny_bind (wpAny_seqItems hs rfl ?_)
    show wpAny _ A.in1 (tryCatch (pyNext (Value.ref I)) _ >>= _) _ _ _
    refine wpAny_bind (wpAny_tryCatch (W.done _ _ _ ⟨by rw [sz, ← hin]; exact it, lst k⟩ fun h1 tk1 k1 => ?_))
    have e1 := k1 S _ (by simpa using ne) hs
    show wpAny _ A.in1 (updateSeq S (fun _ => (#[] : Array Value)) >>= _) _ _ _
    refine wpAny_bind (wpAny_updateSeq e1 rfl (wpAny_bind (wpAny_letGo (wpAny_pure ?_))))
    exact fin i b _ _ hb (fun k' hk => best k' (by omega)) ((k.but hI k1).same hS (Heap.SameBut.update h1 S _))
  | succ r ih =>
    intro j i h tk b t n hr hj k hs it hb hij best
    have hlt : j + 1 < vs.length := by omega
    refine codeAny_builtin PySem.F.entry_min_loop ?_
    rw [Around.under_plainId PySem.F.plain_min_loop _]
    show wpAny _ A.in1 (seqItems? (Value.ref S) >>= _) _ _ _
    refine wpAny_bind (wpAny_seqItems hs rfl ?_)
    show wpAny _ A.in1 (tryCatch (pyNext (Value.ref I)) _ >>= _) _ _ _
    refine wpAny_bind (wpAny_tryCatch (W.item (j + 1) _ _ _ (by rw [sz]; exact hlt) ⟨it, lst k⟩ fun v h1 tk1 hp st k1 => ?_))
    have hv : vs[j + 1]? = some v := by simpa using hp
    have e1 := k1 S _ (by simpa using ne) hs
    have kg := k.but hI k1
    show wpAny _ A.in1 (tryCatch (holding [v] (call (Value.ref q) [v])) _ >>= _) _ _ _
    refine wpAny_bind (wpAny_tryCatch (wpAny_holding (wpAny_mono (turn (j + 1) v hv h1 tk1 kg) (fun u y he => ?_) fun _ _ f => f.elim)))
    obtain ⟨h2, tk2, t2, rfl, rfl, k2⟩ := he
    have e2 := k2 S _ e1
    have it2 : h2.IsListIter I l (j + 1 + 1) := st.1.at fun o e => k2 _ _ e
    have kg2 := kg.trans k2
    show wpAny _ A.in1 (tryCatch (holding [v, Value.str (ks (j + 1)) t2] (richCompare .Lt (Value.str (ks (j + 1)) t2) (Value.str (ks i) t) >>= _)) _ >>= _) _ _ _
    refine wpAny_bind (wpAny_tryCatch (wpAny_holding (wpAny_bind (show wpAny _ _ (compareOp .Lt (Value.str (ks (j + 1)) t2) (Value.str (ks i) t)) _ _ _ from lt_str ?_))))
    refine wpAny_bind (wpAny_holding (wpAny_truthy_bool ?_))
    refine wpAny_bind (wpAny_letGo (wpAny_pure ?_))
    by_cases c : ltS (ks (j + 1)) (ks i)
    · have c' : (ks (j + 1)).cps.toList < (ks i).cps.toList := c
      obtain ⟨n2, g2⟩ : ∃ n2, (h2.update S (Obj.mapSeq fun _ => #[v, Value.str (ks (j + 1)) t2])).get? S = some (seqObj "list" #[v, Value.str (ks (j + 1)) t2] n2) := ⟨_, get?_update_seq e2 fun _ => #[v, Value.str (ks (j + 1)) t2]⟩
      have s2 := Heap.SameBut.update h2 S (Obj.mapSeq fun _ => #[v, Value.str (ks (j + 1)) t2])
      simp only [c', decide_true, if_true]
      refine wpAny_bind (wpAny_updateSeq e2 rfl (wpAny_bind (wpAny_letGo ?_)))
      rw [nm]
      refine wpAny_pure ⟨plainId_quiet PySem.F.plain_min_loop _, ih (j + 1) (j + 1) _ _ v t2 n2 (by omega) hlt (kg2.same hS s2) g2 (it2.at fun o e => (s2.2 I (Ne.symm ne)).trans e) hv (Nat.le_refl _) fun k' hk => ?_⟩
      by_cases e : k' = j + 1
      · subst e
        exact fun z => List.lt_irrefl _ z
      · exact fun z => best k' (by omega) (ltS_trans z c)
    · have c' : ¬ (ks (j + 1)).cps.toList < (ks i).cps.toList := c
      simp only [c', decide_false, Bool.false_eq_true, if_false]
      refine wpAny_bind (wpAny_letGo ?_)
      rw [nm]
      refine wpAny_pure ⟨plainId_quiet PySem.F.plain_min_loop _, ih (j + 1) i _ _ b t n (by omega) hlt kg2 e2 it2 hb (by omega) fun k' hk => ?_⟩
      by_cases e : k' = j + 1
      · subst e; exact c
      · exact best k' (by omega)
theorem min_key {Q : Value → Shared → Prop} (ks : Nat → Str) (hh : A.handled = none) (hl : z.heap.IsList l vs.toArray) (h0 : 0 < vs.length)
    (turn : ∀ i v, vs[i]? = some v → ∀ (h : Heap) (tk : Nat), Kept z.heap h → wpAny (model P w) A.in1 (call (.ref q) [v]) (KeyEnd z h (ks i)) (fun _ _ => False) { z with heap := h, toks := tk })
    (fin : ∀ i v h tk, vs[i]? = some v → (∀ j, j < vs.length → ¬ ltS (ks j) (ks i)) → Kept z.heap h → Q v { z with heap := h, toks := tk }) :
    wpAny (model P w) A (call (.builtin "min") [.ref l] [(Str.ofString "key", .ref q)]) Q E z := by
  have nm : (toString "min" ++ toString ".loop" : String) = "min.loop" := by decide
  refine kmk_tree PySem.F.kind_min PySem.F.plain_min PySem.F.entry_min (kmk_min_key _ _) ?_
  show wpAny _ A.in1 (Builtin.Builtins.bindParams "min" ["key", "default"] 0 ⟨[], [(Str.ofString "key", Value.ref q)]⟩ >>= _) _ _ z
  refine wpAny_bind (wpAny_of_eq (show Builtin.Builtins.bindParams "min" ["key", "default"] 0 ⟨[], [(Str.ofString "key", Value.ref q)]⟩ = pure [some (Value.ref q), none] from rfl) ?_)
  refine wpAny_bind (wpAny_pure (wpAny_bind (wpAny_pyIter_list hl (wpAny_bind (wpAny_newList ?_ (Nat.zero_le _))))))
  rw [nm]
  refine wpAny_pure ⟨plainId_quiet PySem.F.plain_min_loop _, ?_⟩
  let oI : Obj := { cls := .type "list_iterator", data := .fields #[.ref l, .int 0 0] }
  have sz1 : (z.heap.push oI).objs.size = z.heap.objs.size + 1 := Heap.size_push ..
  have gI : ((z.heap.push oI).push (seqObj "list" #[] 0)).get? z.heap.objs.size = some oI := Heap.get?_push_of_some _ (Heap.get?_push_size _ rfl)
  have gS : ((z.heap.push oI).push (seqObj "list" #[] 0)).get? (z.heap.push oI).objs.size = some (seqObj "list" #[] 0) := Heap.get?_push_size _ rfl
  have kk : Kept z.heap ((z.heap.push oI).push (seqObj "list" #[] 0)) := (Kept.push _ _).trans (Kept.push _ _)
  have hI : z.heap.objs.size ≤ z.heap.objs.size := Nat.le_refl _
  have hS : z.heap.objs.size ≤ (z.heap.push oI).objs.size := by rw [sz1]; exact Nat.le_succ _
  have ne : (z.heap.push oI).objs.size ≠ z.heap.objs.size := by rw [sz1]; exact Nat.succ_ne_self _
  have hlI : l ≠ z.heap.objs.size := by
    obtain ⟨o, e, _⟩ := hl
    exact Nat.ne_of_lt (Heap.lt_size e)
  have W := Walks.list (prog := P) (w := w) (A := A.in1) hh z.heap.objs.size l hlI vs.toArray
  have sz : vs.toArray.size = vs.length := by simp
  have lst : ∀ {h}, Kept z.heap h → h.IsList l vs.toArray := fun {h} k => by
    obtain ⟨o, e, r⟩ := hl
    exact ⟨o, k _ _ e, r⟩
  refine codeAny_builtin PySem.F.entry_min_loop ?_
  rw [Around.under_plainId PySem.F.plain_min_loop _]
  show wpAny _ A.in1 (seqItems? (Value.ref (z.heap.push oI).objs.size) >>= _) _ _ _
  refine wpAny_bind (wpAny_seqItems gS rfl ?_)
  show wpAny _ A.in1 (tryCatch (pyNext (Value.ref z.heap.objs.size)) _ >>= _) _ _ _
  refine wpAny_bind (wpAny_tryCatch (W.item 0 _ _ _ (by rw [sz]; exact h0) ⟨⟨_, gI, rfl, rfl⟩, lst kk⟩ fun v h1 tk1 hp st k1 => ?_))
  have hv : vs[0]? = some v := by simpa using hp
  have e1 := k1 _ _ (by simpa using ne) gS
  have kg := kk.but hI k1
  show wpAny _ A.in1 (tryCatch (holding [v] (call (Value.ref q) [v])) _ >>= _) _ _ _
  refine wpAny_bind (wpAny_tryCatch (wpAny_holding (wpAny_mono (turn 0 v hv h1 tk1 kg) (fun u y he => ?_) fun _ _ f => f.elim)))
  obtain ⟨h2, tk2, t2, rfl, rfl, k2⟩ := he
  have e2 := k2 _ _ e1
  have s2 := Heap.SameBut.update h2 (z.heap.push oI).objs.size (Obj.mapSeq fun _ => #[v, Value.str (ks 0) t2])
  obtain ⟨n2, g2⟩ : ∃ n2, (h2.update (z.heap.push oI).objs.size (Obj.mapSeq fun _ => #[v, Value.str (ks 0) t2])).get? (z.heap.push oI).objs.size = some (seqObj "list" #[v, Value.str (ks 0) t2] n2) := ⟨_, get?_update_seq e2 fun _ => #[v, Value.str (ks 0) t2]⟩
  show wpAny _ A.in1 (updateSeq (z.heap.push oI).objs.size (fun _ => #[v, Value.str (ks 0) t2]) >>= _) _ _ _
  refine wpAny_bind (wpAny_updateSeq e2 rfl ?_)
  rw [nm]
  refine wpAny_pure ⟨plainId_quiet PySem.F.plain_min_loop _, min_loop ks hh hl hI hS ne turn fin _ 0 0 _ _ v t2 n2 rfl h0 ((kg.trans k2).same hS s2) g2 ((st.1.at fun o e => k2 _ _ e).at fun o e => (s2.2 _ (Ne.symm ne)).trans e) hv (Nat.le_refl _) fun k' hk => ?_⟩
  have : k' = 0 := by omega
  subst this
  exact fun z => List.lt_irrefl _ z
end
end L2
-- MOD Ex10
/-! A lambda that tells an attribute, as min's key; the table of places in its def's code. -/
namespace L2
open PySem PySem.Spec PyProof.Rows
noncomputable def CodeO (c : Addr) (q : Str) : HO := .ext fun h => h.CodeRec (.ref c) q
noncomputable def TabOk (H : Hp) (P : Addr) (pos : Pos) (q : Str) : Prop := H P = some (.tbl #[]) ∨ ∃ c, H P = some (.tbl #[rawInt pos.line, rawInt pos.col, .ref c]) ∧ H c = some (CodeO c q)
noncomputable def GrownBut (P : Addr) (H H' : Hp) : Prop := ∀ b o, H b = some o → b ≠ P → H' b = some o
theorem TabOk.ne {H : Hp} {P : Addr} {pos : Pos} {q : Str} (T : TabOk H P pos q) {a : Addr} {o : HO} (e : H a = some o) (h : ∀ ps, o ≠ .tbl ps) : a ≠ P := by
  rintro rfl
  rcases T with z | ⟨c, z, _⟩ <;> rw [e] at z <;> exact h _ (Option.some.inj z)
theorem TabOk.stay {H H' : Hp} {P : Addr} {pos : Pos} {q : Str} (T : TabOk H P pos q) (k : ∀ b o, H b = some o → H' b = some o) : TabOk H' P pos q := by
  rcases T with z | ⟨c, z, y⟩
  · exact .inl (k _ _ z)
  · exact .inr ⟨c, k _ _ z, k _ _ y⟩
theorem TabOk.but {H H' : Hp} {P : Addr} {pos : Pos} {q : Str} {p : Addr} {u : HO} (T : TabOk H P pos q) (hp : H p = some u) (h1 : ∀ ps, u ≠ .tbl ps) (h2 : ∀ f, u ≠ .ext f) (k : ∀ b o, H b = some o → b ≠ p → H' b = some o) : TabOk H' P pos q := by
  have n1 := T.ne hp h1
  rcases T with z | ⟨c, z, y⟩
  · exact .inl (k _ _ z (Ne.symm n1))
  · refine .inr ⟨c, k _ _ z (Ne.symm n1), k _ _ y ?_⟩
    rintro rfl
    rw [hp] at y
    exact h2 _ (Option.some.inj y)
noncomputable def BltAt (mg : Str → Option Value) (base : Heap) : Prop := ∃ (bm : Addr) (ob : Obj), mg "__builtins__" = some (.ref bm) ∧ bm ≠ builtinsNs ∧ bm ≠ mainGlobals ∧ base.get? bm = some ob ∧ ob.cls = .type "module" ∧ ob.dict = some builtinsNs ∧ ob.data = .plain
structure LamTxt (K : PySem.W.Frag) (mg : Str → Option Value) (base : Heap) (c P : Addr) : Prop where
  hd : PySem.W.codeHdIn K c P = true
  blt : BltAt mg base
section
variable {X : Cx} {pins : List (Addr × Obj)} {σ : St} {H : Hp} {s : Shared} {A : Around} {E : Value → Shared → Prop}
theorem rec_stays {c : Addr} {q : Str} : ∀ h1 h2 : Heap, h1.CodeRec (.ref c) q → (∀ o, h1.get? c = some o → h2.get? c = some o) → h2.CodeRec (.ref c) q := fun h1 h2 ⟨c', o, vs, t, e, ho, r⟩ k => by
  cases e
  exact ⟨c, o, vs, t, rfl, k o ho, r⟩
theorem lam_made {params : Arguments} {body : Expr} {scope : Scope} {pos : Pos} {c P : Addr} {q : Str} {Q : Value → Shared → Prop} (I : Inv X pins σ H s) (T : LamTxt X.K X.mg X.base c P) (hcode : X.env.code = .ref c) (hq : X.env.qual ++ "<lambda>" = q)
    (hcl : closureFor scope X.env = pure []) (hdef : defaultsOf params X.env = ([], [])) (W : TabOk H P pos q)
    (h : ∀ (H' : Hp) (s' : Shared) (f c' : Addr) (pm ctv : Value), Inv X pins σ H' s' → s'.heap.get? f = some (PySem.W.kla_obj "<lambda>" q params body scope [] pm c' ctv) → s'.heap.CodeRec (.ref c') q → TabOk H' P pos q → GrownBut P H H' → Q (.ref f) s') :
    wpAny (model X.prog X.w) A (eval (.Lambda params body scope pos) X.env) Q E s := by
  subst hq
  refine PySem.W.kla_eval hdef ?_
  obtain ⟨bm, ob, e1, e3, e4, e2, e5, e6, e7⟩ := T.blt
  have hbP : bm ≠ P := by
    rintro rfl
    have := (I.bs _ _ e2).2
    rcases W with z | ⟨c', z, _⟩ <;> rw [this] at z <;> cases z
  have hb : s.heap.BuiltinsAt X.mg P := ⟨bm, ob, e1, e3, e4, hbP, I.bk _ _ e2, e5, e6, e7⟩
  have hg := I.mod.glob.keeps I.bk
  have C := PySem.W.codeHd_of_K I.kIn T.hd
  have tab : ∀ {ps}, H P = some (.tbl ps) → s.heap.get? P = some (PySem.W.tabObj ps) := fun {ps} e => I.hok P _ e
  have hgP : mainGlobals ≠ P := by
    rintro rfl
    obtain ⟨o, es, ep, ho, hd, _⟩ := hg
    rcases W with z | ⟨c', z, _⟩ <;> (rw [tab z] at ho; cases ho; cases hd)
  rcases W with z | ⟨c', z, y⟩
  · refine PySem.W.kla_makeFunction hcl I.ok.glob hg hcode C (tab z) trivial rfl hgP hb fun c' ctv h' tk hx hge hlt hrec htb => ?_
    have fc : H c' = none := I.hok.fresh hge
    have nP : c' ≠ P := Ne.symm (ne_of_none z fc)
    let H' : Hp := upd (upd H P (.tbl #[rawInt pos.line, rawInt pos.col, .ref c'])) c' (CodeO c' (X.env.qual ++ "<lambda>"))
    have hP' : H' P = some (.tbl #[rawInt pos.line, rawInt pos.col, .ref c']) := by show upd _ _ _ _ = _; rw [upd_ne (Ne.symm nP), upd_same]
    have hc' : H' c' = some (CodeO c' (X.env.qual ++ "<lambda>")) := upd_same
    have gr : ∀ b o, H b = some o → b ≠ P → H' b = some o := fun b o e nb => by
      show upd _ _ _ _ = _
      rw [upd_ne (ne_of_none e fc), upd_ne nb]; exact e
    have I1 : Inv X pins σ H' { s with heap := h', toks := tk } := by
      refine I.step (g' := s.gens) (d' := s.drawn) (ch := []) (fun _ m => nomatch m) (fun b o _ _ _ e n => hx b o (Ne.symm (ne_of_none z n)) e) (fun b o _ _ _ e n => ⟨o.slots, hx b o (Ne.symm (ne_of_none z n)) e⟩) (fun b o _ e n => ?_) (fun b o _ e => ?_)
        (fun b xs e => gr b _ e fun k => by subst k; rw [z] at e; cases e) (fun b o u e => gr b _ e fun k => by subst k; rw [z] at e; cases e) (fun b ps e => ?_) (fun m hm => ?_) (fun b u e => ?_) I.bare
      · show upd _ _ _ _ = _
        rw [upd_ne (Nat.ne_of_lt (Nat.lt_of_lt_of_le (Heap.lt_size e) hge)), upd_ne (Ne.symm (ne_of_none z n))]; exact n
      · by_cases k : b = P
        · subst k; exact ⟨_, htb⟩
        · exact ⟨o, hx b o k e⟩
      · by_cases k : b = P
        · subst k
          rw [z] at e; cases e
          exact ⟨#[rawInt pos.line, rawInt pos.col, .ref c'], by rw [hP']; rfl⟩
        · exact ⟨#[], by rw [gr b _ e k]; simp⟩
      · exact hm.extBut hx fun k => by have := I.free; rw [k, z] at this; cases this
      · by_cases k1 : b = c'
        · subst k1
          rw [hc'] at e; cases e
          obtain ⟨_, o, _, _, e', ho, _⟩ := id hrec
          cases e'
          exact ⟨hrec, ⟨o, ho⟩, rec_stays⟩
        · by_cases k2 : b = P
          · subst k2
            rw [hP'] at e; cases e
            exact htb
          · have e' : H b = some u := by
              have e2 : upd (upd H P _) c' _ b = some u := e
              rwa [upd_ne k1, upd_ne k2] at e2
            refine (I.hok b u e').stay (fun d v hd' r => hx d v ?_ r) (fun d r => gr d _ r ?_) fun d xs r => gr d _ r ?_
            · rcases hd' with k | k
              · rw [k]; exact k2
              · rintro rfl; rw [z] at k; cases k
            · rintro rfl; rw [z] at r; cases r
            · rintro rfl; rw [z] at r; cases r
    have I2 : Inv X pins σ H' { s with heap := h'.push _, toks := tk } := I1.kept (t' := tk) (h' := h'.push (PySem.W.kla_obj "<lambda>" (X.env.qual ++ "<lambda>") params body scope [] ((X.mg "__name__").getD .none) c' ctv)) fun b u e => Heap.get?_push_of_some _ e
    refine h H' _ h'.objs.size c' ((X.mg "__name__").getD .none) ctv I2 (Heap.get?_push_size _ rfl) ?_ (.inr ⟨c', hP', hc'⟩) gr
    exact rec_stays h' _ hrec fun o e => Heap.get?_push_of_some _ e
  · refine PySem.W.kla_makeFunctionHit (cv := .ref c') hcl I.ok.glob hg hcode C (tab z) trivial ?_ hb fun ctv h' tk kk sz => ?_
    · simp [codeAmong, rawInt]
    · have I2 : Inv X pins σ H { s with heap := h'.push _, toks := tk } := I.kept (t' := tk) (h' := h'.push (PySem.W.kla_obj "<lambda>" (X.env.qual ++ "<lambda>") params body scope [] ((X.mg "__name__").getD .none) c' ctv)) fun b u e => Heap.get?_push_of_some _ (kk b u e)
      refine h H _ h'.objs.size c' ((X.mg "__name__").getD .none) ctv I2 (Heap.get?_push_size _ rfl) ?_ (.inr ⟨c', z, y⟩) fun b o e _ => e
      obtain ⟨hr, _, _⟩ := I.hok c' _ y
      exact rec_stays s.heap _ hr fun o e => Heap.get?_push_of_some _ (kk _ _ e)
end
structure LamSc (scope : Scope) (x : Str) : Prop where
  co : scope.isCoroutine = false
  gen : scope.isGenerator = false
  kind : scope.kind = .function
  cell : ∀ y ∈ scope.names, y.2 ≠ .cell
  loc : scope.names.lookup x = some .local
section
variable {P : Program} {w : World} {A : Around} {z : Shared}
theorem lam_fld {f c' : Addr} {nm q x fld k : Str} {params : Arguments} {p1 p2 : Pos} {scope : Scope} {pm ctv v : Value} (ho : z.heap.get? f = some (PySem.W.kla_obj nm q params (.Attribute (.Name x p1) fld p2) scope [] pm c' ctv)) (hc : z.heap.CodeRec (.ref c') q)
    (hroom : A.depth < recursionLimit) (hlim : z.heap.NoLimit) (hb : bindArgs (PySem.W.kla_fn nm q params (.Attribute (.Name x p1) fld p2) scope [] pm (.ref c') ctv) ⟨[v], []⟩ = pure [(x, v)]) (S : LamSc scope x) (hx : (x == ("__debug__" : Str)) = false)
    (hat : ∀ env : Env, attributeBase (.Name x p1) fld env (eval (.Name x p1) env) = eval (.Name x p1) env)
    (hget : ∀ (A' : Around) (E' : Value → Shared → Prop) (h : Heap) (tk : Nat), Kept z.heap h → wpAny (model P w) A' (getAttr v fld true) (fun u y => ∃ t tk', u = .str k t ∧ y = { z with heap := h, toks := tk' }) E' { z with heap := h, toks := tk }) :
    wpAny (model P w) A (call (.ref f) [v]) (KeyEnd z z.heap k) (fun _ _ => False) z := by
  refine wpAny_call (PySem.W.kla_callFunE hroom ho rfl S.co S.gen rfl hc ?_)
  rw [hb]
  refine wpAny_pure (wpAny_newFunctionEnv S.cell (fun y hy => by rw [List.mem_singleton.mp hy]; exact S.loc) (fun h1 hns hsb => ?_) S.kind)
  have kk : Kept z.heap h1 := fun b o e => (hsb.2 b (Nat.ne_of_lt (Heap.lt_size e))).trans (Heap.get?_push_of_some _ e)
  refine ⟨hlim.keeps kk, PySem.W.kla_codeExpr (attr_of (hat _) (wpAny_Name (wpAny_loadName_local S.kind S.loc hns (v := v) (by simp) ?_) hx))⟩
  refine thn (hget _ _ h1 _ kk) fun u y ⟨t, tk', eu, ey⟩ => ?_
  exact ⟨h1, tk', t, eu, ey, kk⟩
end
noncomputable def tMinKey (K : PySem.W.Frag) (P : Addr) (pos : Pos) (q fld : Str) (ta : TA) : TE := fun σ H Q => ta σ H fun vs H1 => ∃ (l : Addr) (xs : List V) (ks : List Str), vs = [.ref l] ∧ SqL K H1 l xs ∧ 0 < xs.length ∧ TabOk H1 P pos q ∧ ks.length = xs.length ∧
  (∀ (i : Nat) (v : V) (k : Str), xs[i]? = some v → ks[i]? = some k → ∃ a C dx fs, v = .ref a ∧ H1 a = some (.ins C dx fs) ∧ Cls K C ∧ NoAttr K C fld ∧ fs.lookup fld = some (.str k)) ∧
  ∀ (i : Nat) (v : V) (k : Str) (H2 : Hp), xs[i]? = some v → ks[i]? = some k → (∀ y ∈ ks, ¬ ltS y k) → TabOk H2 P pos q → GrownBut P H1 H2 → Q v H2
section
variable {X : Cx}
theorem pe_minKey {e : Expr} {ta : TA} {x fld q : Str} {params : Arguments} {p p1 p2 lpos kpos pos : Pos} {scope : Scope} {c P : Addr} (T : LamTxt X.K X.mg X.base c P) (hcode : X.env.code = .ref c) (hr : Room 2 X.A) (hcm : X.calm = true) (hg : Gl X "min") (hm : X.mg "min" = none) (ha : PA X [e] ta)
    (S : LamSc scope x) (hq : X.env.qual ++ "<lambda>" = q := by rfl) (hcl : closureFor scope X.env = pure [] := by rfl) (hdef : defaultsOf params X.env = ([], []) := by rfl)
    (hb : ∀ (pm cd ctv v : Value), bindArgs (PySem.W.kla_fn "<lambda>" q params (.Attribute (.Name x p1) fld p2) scope [] pm cd ctv) ⟨[v], []⟩ = pure [(x, v)] := by intros; rfl) (hx : (x == ("__debug__" : Str)) = false := by decide)
    (hat : ∀ env : Env, attributeBase (.Name x p1) fld env (eval (.Name x p1) env) = eval (.Name x p1) env := by intros; rfl)
    (he : backTo pos (starEach [e] X.env) = (false, eval e X.env) :: backTo pos (starEach [] X.env) := by rfl) (hpl : (backTo pos (starEach [e] X.env)).any (·.1) = false := by rfl) :
    PE X (.Call (.Name "min" p) [e] [⟨some "key", .Lambda params (.Attribute (.Name x p1) fld p2) scope lpos, kpos⟩] pos) (tMinKey X.K P lpos q fld ta) := by
  intro pins s σ H Q I h
  refine wpAny_Call_Name_kw (ld_blt I hg hm PyProof.Rows.boot_min ?_)
  refine PyProof.Rows.callWith_kw (thn (ha pos pins s σ H _ I h) fun us s1 ⟨vs, H1, I1, r1, q1⟩ => ?_) he hpl rfl rfl
  obtain ⟨l, xs, ks, rfl, hl, h0, W, hlen, hat1, fin⟩ := q1
  obtain ⟨u, rfl, ru⟩ := v1 r1
  cases (show u = Value.ref l from ru)
  refine PyProof.Rows.evalAll_cons (wpAny_bind (lam_made I1 T hcode hq hcl hdef W fun H2 s2 f c' pm ctv I2 ho hrec W2 gr => wpAny_bind (wpAny_standAt (wpAny_pure ?_))))
  refine PyProof.Rows.evalAll_nil ?_
  have hlP : SqL X.K H2 l xs := by
    rcases hl with (z | ⟨o, z⟩) | z
    · exact .inl (.inl (gr _ _ z (W.ne z (fun _ k => nomatch k))))
    · exact .inl (.inr ⟨o, gr _ _ z (W.ne z (fun _ k => nomatch k))⟩)
    · exact .inr z
  obtain ⟨its, rv, pl, _⟩ := I2.list hlP
  have il := rv.length
  refine min_key (vs := its) (fun i => ks.getD i Str.empty) (I2.ok.hd hcm) pl.isList (by omega) (fun i v hv h tk kk => ?_) fun i v h tk hv hbest kk => ?_
  · have hi : i < its.length := (List.getElem?_eq_some_iff.mp hv).1
    obtain ⟨y, hy⟩ : ∃ y, xs[i]? = some y := ⟨_, List.getElem?_eq_getElem (by omega)⟩
    obtain ⟨k, hk⟩ : ∃ k, ks[i]? = some k := ⟨_, List.getElem?_eq_getElem (by omega)⟩
    obtain ⟨u, hu, ry⟩ := rv.get hy
    rw [hv] at hu; cases hu
    obtain ⟨a, C, dx, fs, rfl, ea, cc, nn, lf⟩ := hat1 i y k hy hk
    cases (show v = Value.ref a from ry)
    have ek : ks.getD i Str.empty = k := by simp [hk]
    show wpAny _ _ _ (KeyEnd s2 h (ks.getD i Str.empty)) _ _
    rw [ek]
    have I3 : Inv X pins σ H2 { s2 with heap := h, toks := tk } := I2.kept (t' := tk) kk
    have ea2 : H2 a = some (.ins C dx fs) := gr _ _ ea (W.ne ea (fun _ k => nomatch k))
    refine lam_fld (z := { s2 with heap := h, toks := tk }) (kk _ _ ho) (rec_stays _ _ hrec fun o e => kk _ _ e) hr.in1.depth I3.nolimit (hb _ _ _ _) S hx hat fun A' E' h2 tk2 k2 => ?_
    have I4 : Inv X pins σ H2 { s2 with heap := h2, toks := tk2 } := I3.kept (t' := tk2) k2
    obtain ⟨mA, O, r, _, _, _⟩ := ins_get I4.hok ea2
    obtain ⟨w', hw, rw'⟩ := RelO.some_of (v := V.str k) (o := mA fld) (by rw [← lf]; exact r fld)
    obtain ⟨t, rfl⟩ := rw'
    exact get_map I4.kIn O (cc.get fld) cc.hd nn hw rfl ⟨t, _, rfl, rfl⟩
  · have hi : i < its.length := (List.getElem?_eq_some_iff.mp hv).1
    obtain ⟨y, hy⟩ : ∃ y, xs[i]? = some y := ⟨_, List.getElem?_eq_getElem (by omega)⟩
    obtain ⟨k, hk⟩ : ∃ k, ks[i]? = some k := ⟨_, List.getElem?_eq_getElem (by omega)⟩
    obtain ⟨u, hu, ry⟩ := rv.get hy
    rw [hv] at hu; cases hu
    have ek : ks.getD i Str.empty = k := by simp [hk]
    refine ⟨y, H2, I2.kept (t' := tk) kk, ry, fin i y k H2 hy hk (fun y' hy' => ?_) W2 gr⟩
    obtain ⟨j, hj, ej⟩ := List.getElem_of_mem hy'
    have := hbest j (by omega)
    rw [ek] at this
    have e2 : ks.getD j Str.empty = y' := by simp [List.getElem?_eq_getElem hj, ej]
    rw [e2] at this
    exact this
end
end L2
-- MOD Ex11
/-! The head of a law whose defs make one lambda: the table of its places is tracked from the beginning. -/
namespace L2
open PySem PySem.Spec PyProof.Rows
noncomputable def OnlyT (P : Addr) (H : Hp) : Prop := H P = some (.tbl #[]) ∧ ∀ b, b ≠ P → H b = none ∨ ∃ o xs, H b = some (.frz o (.lst xs))
theorem law_callT {P : Program} {w : World} {K : PySem.W.Frag} {mg mb : Str → Option Value} {CX : CXT} {k : Nat} {fa a T c : Addr} {fd : FuncData} {x : Str} {sp : Sp} {s₁ : Shared} {vs : List Value} {ns : List Int}
    (KX : K.In s₁.heap) (hns : s₁.heap.Ns mainGlobals mg) (hb : s₁.heap.Ns builtinsNs mb) (hbb : ∀ x : Str, x ≠ "__name__" → mb x = bootBuiltins x) (hlim : s₁.heap.NoLimit) (hg : s₁.gens = #[]) (hBl : BltAt mg s₁.heap) (hT : s₁.heap.get? T = some (PySem.W.tabObj #[])) (hKT : K.lookup T = none) (hCd : PySem.W.codeHdIn K c T = true)
    (ha : s₁.heap.get? a = some { cls := .type "list", data := .seq vs.toArray }) (hi : IntsAre vs ns) (hl : ns.length ≤ sizeLine) (hr : Room k callerA)
    (F : ∀ base : Heap, K.In base → base.Ns mainGlobals mg → BltAt mg base → FnOk P w K mg base CX k fa fd [x] sp) (hbind : ∀ (s : Shared) (u : Value), BindsTo s fd ⟨[u], []⟩ [(x, u)])
    (hsp : ∀ H : Hp, OnlyT T H → SqL K H a (ns.map V.int) → sp [.ref a] H (fun v _ => v = .bl true) fun _ _ _ => False)
    (hCX : ∀ H e s', CX [] H s₁ (fun _ _ _ => False) e s' → False) :
    codeAny (model P w) callerA (.call (.ref fa) ⟨[.ref a], []⟩) (fun r s' => r = .ok (.ret (.bool true)) ∧ OldK s₁.heap s'.heap ∧ s'.os = s₁.os ∧ AllBare s'.gens) s₁ := by
  have rv := vals_ints hi
  have lenV := hi.length
  have aT : a ≠ T := by
    rintro rfl
    rw [ha] at hT; cases hT
  have core : ∀ H : Hp, OnlyT T H → SqL K H a (ns.map V.int) → HOk P w H s₁.heap → (∀ b, H b ≠ none → b = a ∨ b = T) → (H a ≠ none → K.lookup a = none) →
      codeAny (model P w) callerA (.call (.ref fa) ⟨[.ref a], []⟩) (fun r s' => r = .ok (.ret (.bool true)) ∧ OldK s₁.heap s'.heap ∧ s'.os = s₁.os ∧ AllBare s'.gens) s₁ := by
    intro H hO hS hok hA hK
    have base_of : ∀ {b : Addr} {o : Obj}, s₁.heap.get? b = some o → H b = none → (hidT s₁.heap H).get? b = some o := fun e n => hidT_get e n
    have noA : ∀ {b : Addr} {o : Obj} {es : Array DictEntry} {ep : Nat}, s₁.heap.get? b = some o → o.data = .dict es ep → H b = none := fun {b o es ep} e d => by
      cases q : H b with
      | none => rfl
      | some u =>
        rcases hA b (by rw [q]; simp) with e' | e'
        · subst e'
          rw [ha] at e; cases e
          have d' : Data.seq vs.toArray _ = Data.dict es ep := d
          cases d'
        · subst e'
          rw [hT] at e; cases e
          cases d
    have nsK : ∀ {b : Addr} {m : Str → Option Value}, s₁.heap.Ns b m → (hidT s₁.heap H).Ns b m := fun {b m} ⟨o, es, ep, e, d, r⟩ => ⟨o, es, ep, base_of e (noA e d), d, r⟩
    have hKb : K.In (hidT s₁.heap H) := fun b o e => base_of (KX b o e) (by
      cases q : H b with
      | none => rfl
      | some u =>
        rcases hA b (by rw [q]; simp) with e' | e'
        · subst e'
          rw [hK (by rw [q]; simp)] at e; cases e
        · subst e'
          rw [hKT] at e; cases e)
    have hBl2 : BltAt mg (hidT s₁.heap H) := by
      obtain ⟨bm, ob, e1, e2, e3, e4, e5, e6, e7⟩ := hBl
      refine ⟨bm, ob, e1, e2, e3, base_of e4 ?_, e5, e6, e7⟩
      cases q : H bm with
      | none => rfl
      | some u =>
        rcases hA bm (by rw [q]; simp) with e' | e'
        · subst e'
          rw [ha] at e4; cases e4
          exact absurd (show Value.type "list" = Value.type "module" from e5) (by decide)
        · subst e'
          rw [hT] at e4; cases e4
          exact absurd (show Value.none = Value.type "module" from e5) (by decide)
    have hM : Mod K mg (hidT s₁.heap H) := ⟨hKb, nsK hns, ⟨mb, nsK hb, hbb⟩, let ⟨mc, h1, h2⟩ := hlim; ⟨mc, nsK h1, h2⟩⟩
    have e0 : Env0 P w K mg (hidT s₁.heap H) callerA [] s₁ H := ⟨rfl, hM, fun b o e => of_hidT e, Nat.le_of_eq (hidT_size _ _), trivial, fun b hb => absurd (show b ∈ ([] : List Addr) from hb) (by simp), hok, .of_eq hg⟩
    refine codeAny_mono ((F _ hKb (nsK hns) hBl2).run callerA [] s₁ H ⟨[.ref a], []⟩ [.ref a] [.ref a] _ _ hr e0 (hbind s₁ (.ref a)) (.cons rfl .nil) (hsp H hO hS)) fun r s' h => ?_
    cases r with
    | error e => exact (hCX H e s' h).elim
    | ok fl =>
      cases fl with
      | next => exact False.elim h
      | brk => exact False.elim h
      | cont => exact False.elim h
      | ret u =>
        obtain ⟨v, H', os, bare, un, hok', r', q⟩ := h
        have q' : v = .bl true := q
        subst q'
        obtain rfl : u = Value.bool true := r'
        have keep : ∀ b o, b ≠ T → s₁.heap.get? b = some o → s'.heap.get? b = some o := fun b o nb e => by
          cases q : H b with
          | none => exact un.keep b o e q (by intro z; exact absurd (show b ∈ ([] : List Addr) from z) (by simp)) (by simp)
          | some u =>
            rcases hO.2 b nb with z | ⟨ob, xs, z⟩
            · rw [q] at z; cases z
            · have z2 := un.frzs b ob _ z
              obtain ⟨e1, _⟩ := hok b _ z
              obtain ⟨e2, _⟩ := hok' b _ z2
              rw [e] at e1; cases e1
              exact e2
        obtain ⟨more, eT⟩ := un.tbls T _ hO.1
        have gT : s'.heap.get? T = some { cls := .none, data := .fields (#[] ++ more) } := hok' T _ eT
        refine ⟨rfl, ⟨fun b o e => ?_, fun b o e => ?_⟩, os, bare⟩
        · by_cases nb : b = T
          · subst nb
            rw [hT] at e; cases e
            obtain ⟨oc, vsc, _, _, _, _, _, _, _, g1, g2, g3, g4, _⟩ := PySem.W.codeHd_of_K KX hCd
            exact .inr (.inl ⟨⟨c, oc, vsc, g1, g2, g3, g4⟩, rfl, #[], more, rfl, gT⟩)
          · exact .inl (keep b o nb e)
        · by_cases nb : b = T
          · subst nb
            exact ⟨_, gT⟩
          · exact ⟨o, keep b o nb e⟩
  cases hk : K.lookup a with
  | some o =>
    have e := KX a o hk
    rw [ha] at e
    cases e
    refine core (fun b => if b = T then some (.tbl #[]) else none) ⟨if_pos rfl, fun b nb => .inl (if_neg nb)⟩ (.inr ⟨_, vs.toArray, _, hk, rfl, rfl, rfl, by rw [List.size_toArray, lenV]; exact hl, by simpa using rv⟩) (fun b u z => ?_) (fun b z => ?_) fun z => absurd (if_neg aT) z
    · by_cases nb : b = T
      · have z' := (if_pos nb).symm.trans z
        cases z'
        subst nb
        exact hT
      · have z' := (if_neg nb).symm.trans z
        cases z'
    · by_cases nb : b = T
      · exact .inr nb
      · exact absurd (if_neg nb) z
  | none =>
    refine core (fun b => if b = T then some (.tbl #[]) else if b = a then some (.frz { cls := .type "list", data := .seq vs.toArray } (.lst (ns.map V.int))) else none) ⟨if_pos rfl, fun b nb => ?_⟩ (.inl (.inr ⟨{ cls := .type "list", data := .seq vs.toArray }, ?_⟩)) (fun b u z => ?_) (fun b z => ?_) fun _ => hk
    · by_cases hb : b = a
      · exact .inr ⟨_, _, (if_neg nb).trans (if_pos hb)⟩
      · exact .inl ((if_neg nb).trans (if_neg hb))
    · exact (if_neg aT).trans (if_pos rfl)
    · by_cases nb : b = T
      · have z' := (if_pos nb).symm.trans z
        cases z'
        subst nb
        exact hT
      · have z' := (if_neg nb).symm.trans z
        by_cases hb : b = a
        · have z2 := (if_pos hb).symm.trans z'
          cases z2
          subst hb
          exact ⟨ha, by rw [List.length_map]; exact hl, vs, _, rv, ha⟩
        · have z2 := (if_neg hb).symm.trans z'
          cases z2
    · by_cases nb : b = T
      · exact .inr nb
      · by_cases hb : b = a
        · exact .inl hb
        · exact absurd ((if_neg nb).trans (if_neg hb)) z
theorem blt_of {p : Program} {loose : List Str} {mean : ExcName → Option Value} {mg mb : Str → Option Value} {h : Heap} (T : PyProof.Rows.Top p loose mean mg mb h) : BltAt mg h := by
  obtain ⟨bm, ob, b1, b2, b3, b4, b5, b6⟩ := T.bmain
  refine ⟨bm, ob, b1, b2, fun q => ?_, b3, b4, b5, b6⟩
  obtain ⟨o, es, ep, e, hd, _⟩ := T.g
  rw [q, e] at b3; cases b3; rw [hd] at b6; cases b6
end L2
-- MOD Ex12
/-! enumerate, dicts walked (frozen from then on), their values, list(d), min and sorted of texts. -/
namespace L2
open PySem PySem.Spec PyProof.Rows
noncomputable def Ite (K : PySem.W.Frag) (a : Addr) : It :=
  ⟨fun i H => ∃ xs x, SqL K H a xs ∧ xs[i]? = some x,
   fun i H v H' => ∃ p x, v = .ref p ∧ H p = none ∧ H' = upd H p (.tup [.int (i : Nat), x]) ∧ ∀ xs, SqL K H a xs → xs[i]? = some x,
   fun i H => ∃ xs, SqL K H a xs ∧ xs.length ≤ i⟩
theorem turn_enum {P : Program} {w : World} {K : PySem.W.Frag} {es : List Expr} {x1 : _} {pos : Pos} {l e it : Addr} (D : e ≠ it) :
    Turn P w K (.Tuple es x1 pos) (Ite K l) [e, it] e (fun i h => (∃ old, IsEnum h e it ((i : Nat) : Int) old) ∧ h.IsListIter it l i) where
  mem := by simp
  obj := fun i h st b hb => by
    obtain ⟨⟨old, h1⟩, ⟨o4, h4, _, d4⟩⟩ := st
    simp only [List.mem_cons, List.not_mem_nil, or_false] at hb
    rcases hb with rfl | rfl
    · exact ⟨_, h1, fun v q => by cases (show Data.fields _ = Data.cell v from q)⟩
    · exact ⟨_, h4, fun v q => by rw [d4] at q; cases q⟩
  keep := fun i h h' st k => by
    obtain ⟨⟨old, h1⟩, h4⟩ := st
    exact ⟨⟨old, k e (by simp) _ h1⟩, h4.at fun o q => k it (by simp) o q⟩
  item := by
    intro X hP hw hK hc i pins s σ H E I hf st hg
    subst hP hw hK
    obtain ⟨⟨old, h1⟩, h4⟩ := st
    obtain ⟨xs, x, qx, ex⟩ := hg
    obtain ⟨its, rx, px, _⟩ := I.list qx
    obtain ⟨u, hu, ru⟩ := rx.get ex
    refine wpAny_pyNext_enum_item h1 h4 px.isList (x := u) (by simpa using hu) D fun h' a1 a2 a3 a4 a5 => ?_
    refine ⟨_, rfl, wpAny_letOwnedTupleGo_enum a1 fun h2' b1 sb => ?_⟩
    have ne : s.heap.objs.size ≠ e := fun q => by have := Heap.lt_size h1; rw [← q] at this; exact Nat.lt_irrefl _ this
    have J : Inv X pins σ H { s with heap := h2', toks := s.toks + 1 } := I.turns (t' := s.toks + 1) (ch := [e, it]) (fun b o hb q => by
      simp only [List.mem_cons, List.not_mem_nil, or_false, not_or] at hb
      exact (sb.2 b hb.1).trans (a5 b o hb.1 hb.2 q)) hf
    have gT : h2'.get? s.heap.objs.size = some { cls := .type "tuple", data := .seq #[.int (i : Nat) s.toks, u] } := (sb.2 _ ne).trans a3
    have fT : H s.heap.objs.size = none := I.hok.fresh (Nat.le_refl _)
    have J2 : Inv X pins σ (upd H s.heap.objs.size (.tup [.int (i : Nat), x])) { s with heap := h2', toks := s.toks + 1 } := J.adopt fT I.sz (Nat.ne_of_gt I.lt) (fun n c q => by
        obtain ⟨w', q⟩ := I.cell n c q
        exact Nat.ne_of_lt q.lt) (fun p hp => Nat.ne_of_lt (Heap.lt_size (I.pin p hp).1)) ⟨by show 2 ≤ sizeLine; decide, [.int (i : Nat) s.toks, u], .cons ⟨_, rfl⟩ (.cons ru .nil), ⟨_, gT, rfl, _, rfl⟩⟩
    refine ⟨.ref s.heap.objs.size, _, J2, rfl, ⟨_, x, rfl, fT, rfl, fun zs hz => by rw [I.list_inj hz qx]; exact ex⟩, ⟨⟨u, ?_⟩, a2.at fun o q => (sb.2 _ (Ne.symm D)).trans q⟩, fun b hb => ?_⟩
    · have : (((i + 1 : Nat)) : Int) = (i : Int) + 1 := by push_cast; rfl
      rw [this]
      exact b1
    · have hb' := (hf b hb).1
      have : b ≠ s.heap.objs.size := by
        rintro rfl
        obtain ⟨o, q⟩ : ∃ o, s.heap.get? s.heap.objs.size = some o := by
          simp only [List.mem_cons, List.not_mem_nil, or_false] at hb
          rcases hb with q | q <;> rw [q]
          · exact ⟨_, h1⟩
          · obtain ⟨o, q, _⟩ := h4; exact ⟨o, q⟩
        exact Nat.lt_irrefl _ (Heap.lt_size q)
      rw [upd_ne this]
      exact hb'
  done := by
    intro X hP hw hK hc i pins s σ H E I hf st hg
    subst hP hw hK
    obtain ⟨⟨old, h1⟩, h4⟩ := st
    obtain ⟨xs, qx, hend⟩ := hg
    obtain ⟨its, rx, px, _⟩ := I.list qx
    have e1 := rx.length
    refine wpAny_pyNext_enum_end (I.ok.hd hc) h1 h4 px.isList (by simp; omega) fun h' kk => ⟨rfl, I.turns (t' := s.toks) (ch := [e, it]) (fun b o hb q => ?_) hf⟩
    simp only [List.mem_cons, List.not_mem_nil, or_false, not_or] at hb
    exact kk b o hb.2 q
  self := fun _ _ _ _ _ st h => wpAny_pyIter_enum st.1.choose_spec h
noncomputable def iEnum (K : PySem.W.Frag) (ta : TA) : TI := fun σ H R => ta σ H fun vs H1 => ∃ a, vs = [.ref a] ∧ (∃ xs, SqL K H1 a xs) ∧ R (Ite K a) H1
section
variable {X : Cx}
theorem pi_enum {es : List Expr} {x1 : _} {tp : Pos} {e1 : Expr} {ta : TA} {p pos : Pos} (hg : Gl X "enumerate") (hm : X.mg "enumerate" = none) (ha : PA X [e1] ta) (hs : starEach [e1] X.env = [(false, eval e1 X.env)] := by rfl) :
    PI X (.Tuple es x1 tp) (.Call (.Name "enumerate" p) [e1] [] pos) (iEnum X.K ta) := by
  intro pins s σ H R I h
  refine Call_ (ld_blt I hg hm boot_enumerate (PyProof.Rows.callWith_type1 (thn (ha pos pins s σ H _ I h) fun us s1 ⟨vs, H1, I1, r1, q1⟩ => ?_) hs rfl))
  obtain ⟨a, rfl, ⟨xs, qx⟩, q⟩ := q1
  obtain ⟨u, rfl, ru⟩ := v1 r1
  cases (show u = Value.ref a from ru)
  obtain ⟨its, rx, px, _⟩ := I1.list qx
  refine call_enumerate_list px.isList fun h' a1 a2 a3 a4 => wpAny_pyIter_enum a1 ?_
  have I2 : Inv X pins σ H1 { s1 with heap := h' } := I1.kept (t' := s1.toks) a4
  refine ⟨s1.heap.objs.size + 1, [s1.heap.objs.size + 1, s1.heap.objs.size], _, _, H1, rfl, I2, turn_enum (Nat.succ_ne_self _), ⟨⟨_, a1⟩, a2⟩, fun c hc => ?_, q⟩
  have hc' : s1.heap.objs.size ≤ c := by
    simp only [List.mem_cons, List.not_mem_nil, or_false] at hc
    rcases hc with q | q
    · rw [q]; exact Nat.le_succ _
    · rw [q]; exact Nat.le_refl _
  exact I1.fpOk hc' (I1.hok.fresh hc')
end
/-! ### a dict that is walked: from then on it is known to its object -/
noncomputable def Froze (H : Hp) (d : Addr) (kvs : List (Key × V)) (H' : Hp) : Prop := ∃ o, H' = upd H d (.frz o (.dK kvs))
theorem Froze.at {H H' : Hp} {d : Addr} {kvs : List (Key × V)} (z : Froze H d kvs H') : Rd H' d (.dK kvs) := by
  obtain ⟨o, rfl⟩ := z
  exact .inr ⟨o, upd_same⟩
theorem Froze.ne {H H' : Hp} {d : Addr} {kvs : List (Key × V)} (z : Froze H d kvs H') {b : Addr} (h : b ≠ d) : H' b = H b := by
  obtain ⟨o, rfl⟩ := z
  exact upd_ne h
section
variable {X : Cx} {pins : List (Addr × Obj)} {σ : St} {H : Hp} {s : Shared} {d : Addr} {kvs : List (Key × V)}
end
theorem KV.get {κ : Type} : ∀ {kvs : List (κ × V)} {vs : List (κ × Value)} {i : Nat} {k : κ} {x : V}, KV kvs vs → kvs[i]? = some (k, x) → ∃ u, vs[i]? = some (k, u) ∧ RelV x u
  | _, _, _, _, _, .nil, e => by simp at e
  | _, _, 0, k, x, .cons (b := b) r _, e => by
    simp at e
    obtain ⟨k', u⟩ := b
    subst e
    obtain ⟨e1, e2⟩ := r
    exact ⟨u, by simp at e1; simp [e1], e2⟩
  | _, _, i + 1, k, x, .cons _ t, e => by
    obtain ⟨u, h1, h2⟩ := KV.get (i := i) (k := k) (x := x) t (by simpa using e)
    exact ⟨u, by simpa using h1, h2⟩
theorem KV.len {κ : Type} {kvs : List (κ × V)} {vs : List (κ × Value)} (h : KV kvs vs) : kvs.length = vs.length := Paired.length h
theorem key_rel {k : Key} {v : Value} (h : keyIs k v = true) : RelV (kV k) v := by
  rcases keyIs_shape h with ⟨i, t, rfl, rfl⟩ | ⟨x, t, rfl, rfl⟩
  · exact ⟨t, rfl⟩
  · exact ⟨t, rfl⟩
section
variable {X : Cx} {tg : Expr}
theorem call_list_dict : CallR X (.type "list") (fun vs H Q => ∃ d kvs, vs = [.ref d] ∧ Rd H d (.dK kvs) ∧ X.calm = true ∧ ∀ p, H p = none → Q (.ref p) (upd H p (.lst (kvs.map fun kv => kV kv.1)))) := by
  intro pins s σ H vs us Q I rv h
  obtain ⟨d, kvs, rfl, rd, hc, q⟩ := h
  obtain ⟨u, rfl, ru⟩ := v1 rv
  cases (show u = Value.ref d from ru)
  obtain ⟨hz, lo, ks, kv, dd⟩ := dk_rd I.hok rd
  obtain ⟨o, es, ep, g, ex, hd, r⟩ := id dd
  have da : s.heap.DictAt (mixKind X.prog X.w) d ks ep := ⟨o, es, g, ex, hd, r⟩
  have kl := kv.len
  refine PySem.W.kdl_call (PySem.W.kdl_dict (knd := mixKind X.prog X.w) (kvs := ks) (ep := ep) lo) (I.ok.hd hc) da (by omega) fun h' tk acc c' kk hS hacc => ?_
  have fr : H s.heap.objs.size = none := I.hok.fresh (Nat.le_refl _)
  refine ⟨.ref s.heap.objs.size, _, I.laid (t' := tk) (a := s.heap.objs.size) (o := .lst (kvs.map fun kv => kV kv.1)) kk (Nat.le_refl _) ⟨by rw [List.length_map]; exact hz, acc.toList, c', ?_, by rw [Array.toArray_toList]; exact hS⟩, rfl, q _ fr⟩
  have ln : acc.toList.length = kvs.length := by rw [Array.length_toList, kl]; exact hacc.1
  have all : ∀ (j : Nat) (v : Value), acc.toList[j]? = some v → ∃ k x, kvs[j]? = some (k, x) ∧ RelV (kV k) v := fun j v e => by
    obtain ⟨k, x, e2, hk⟩ := hacc.2 j v (by rw [← Array.getElem?_toList]; exact e)
    have hj : j < kvs.length := by rw [← ln]; exact (List.getElem?_eq_some_iff.mp e).1
    obtain ⟨⟨k', x'⟩, hk'⟩ : ∃ p, kvs[j]? = some p := ⟨_, List.getElem?_eq_getElem hj⟩
    obtain ⟨u', hu', _⟩ := kv.get hk'
    rw [e2] at hu'
    cases hu'
    exact ⟨k, x', hk', key_rel hk⟩
  clear hS hacc hz da dd kk kl kv rd q
  generalize acc.toList = ys at ln all
  induction kvs generalizing ys with
  | nil =>
    cases ys with
    | nil => exact .nil
    | cons a b => cases ln
  | cons p t ih =>
    cases ys with
    | nil => cases ln
    | cons a b =>
      refine .cons ?_ (ih b (by simpa using ln) fun j v e => ?_)
      · obtain ⟨k, x, e, q⟩ := all 0 a rfl
        simp at e
        subst e
        exact q
      · obtain ⟨k, x, e2, q⟩ := all (j + 1) v (by simpa using e)
        exact ⟨k, x, by simpa using e2, q⟩
theorem ltCps_iff : ∀ (a b : List Nat), ltCps a b = true ↔ a < b
  | [], [] => by simp [ltCps]
  | [], _ :: _ => by simp [ltCps]
  | _ :: _, [] => by simp [ltCps]
  | a :: r, b :: t => by
    rw [List.cons_lt_cons_iff]
    simp only [ltCps, Bool.or_eq_true, Bool.and_eq_true, decide_eq_true_eq, beq_iff_eq, ltCps_iff r t]
theorem leS_trans {a b c : Str} (x : ¬ ltS b a) (y : ¬ ltS c b) : ¬ ltS c a := by
  have h1 : a.cps.toList ≤ b.cps.toList := x
  have h2 : b.cps.toList ≤ c.cps.toList := y
  exact List.le_trans h1 h2
theorem rising_pw : ∀ (l : List Str) (a : Str), risingS a l = true → (a :: l).Pairwise (fun x y => ¬ ltS y x)
  | [], a, _ => by simp
  | b :: r, a, h => by
    have h' : (!ltCps b.cps.toList a.cps.toList && risingS b r) = true := h
    simp only [Bool.and_eq_true, Bool.not_eq_true'] at h'
    have ih := rising_pw r b h'.2
    have hab : ¬ ltS b a := fun z => by
      have := (ltCps_iff _ _).mpr z
      rw [h'.1] at this
      cases this
    refine List.pairwise_cons.mpr ⟨fun y hy => ?_, ih⟩
    rcases List.mem_cons.mp hy with rfl | hy
    · exact hab
    · exact leS_trans hab ((List.pairwise_cons.mp ih).1 y hy)
theorem sorted_pw : ∀ (l : List Str), sortedS l = true → l.Pairwise (fun x y => ¬ ltS y x)
  | [], _ => .nil
  | a :: r, h => rising_pw r a h
theorem strs_are : ∀ {ks : List Str} {us : List Value}, Vals (ks.map V.str) us → StrsAre us ks
  | [], _, .nil => .nil
  | k :: r, _, .cons a t => by
    obtain ⟨tk, rfl⟩ := a
    exact .cons k tk (strs_are t)
theorem vals_strs : ∀ {ks : List Str} {us : List Value}, StrsAre us ks → Vals (ks.map V.str) us
  | _, _, .nil => .nil
  | _, _, .cons x t r => .cons ⟨t, rfl⟩ (vals_strs r)
theorem call_sorted_strs {K : PySem.W.Frag} (hK : X.K = K) : CallR X (.builtin "sorted") (fun vs H Q => ∃ (l : Addr) (ks : List Str), vs = [.ref l] ∧ SqL K H l (ks.map V.str) ∧ ks.length < 64 ∧
    ∀ p (ks' : List Str), H p = none → ks'.Perm ks → ks'.Pairwise (fun a b => ¬ ltS b a) → Q (.ref p) (upd H p (.lst (ks'.map V.str)))) := by
  subst hK
  intro pins s σ H vs us Q I rv h
  obtain ⟨l, ks, rfl, hl, h64, q⟩ := h
  obtain ⟨u, rfl, ru⟩ := v1 rv
  cases (show u = Value.ref l from ru)
  obtain ⟨its, rx, pl, hz⟩ := I.list hl
  have sa := strs_are rx
  have il := rx.length
  simp only [List.length_map] at il hz
  refine sorted_strs pl.isList sa (by omega) fun out ss' a1 a2 a3 => ?_
  obtain ⟨e, he⟩ := sortedAll_at s.heap its out
  have fr : H (s.heap.objs.size + 1) = none := I.hok.fresh (Nat.le_succ _)
  have ln : ss'.length = ks.length := a2.length_eq
  refine ⟨.ref (s.heap.objs.size + 1), _, I.laid (t' := s.toks) (a := s.heap.objs.size + 1) (o := .lst (ss'.map V.str)) (fun _ _ => sortedAll_old) (Nat.le_succ _) ⟨by rw [List.length_map]; omega, out.toList, e, vals_strs a1, by simpa [seqObj] using he⟩, rfl, q _ ss' fr a2 ?_⟩
  exact sorted_pw ss' a3
end
end L2
-- MOD Ex13
/-! dict(list of pairs). -/
namespace L2
open PySem PySem.Spec PyProof.Rows
section
variable {P : Program} {w : World} {A : Around} {E : Value → Shared → Prop}
theorem nodup_at {α : Type} {l : List α} (h : l.Nodup) {i j : Nat} {x : α} (a : l[i]? = some x) (b : l[j]? = some x) : i = j := by
  obtain ⟨h1, e1⟩ := List.getElem?_eq_some_iff.mp a
  obtain ⟨h2, e2⟩ := List.getElem?_eq_some_iff.mp b
  exact (List.getElem_inj h).mp (e1.trans e2.symm)
end
section
variable {X : Cx}
end
end L2
-- MOD Ex14
namespace L2
open PySem PySem.Spec PyProof.Rows
section
variable {X : Cx}
theorem call_isinstK {K : PySem.W.Frag} (hK : X.K = K) : CallR X (.builtin "isinstance") (fun xs H Q => ∃ x c t cv b, xs = [x, c] ∧ TyOf K H x t ∧ RelV c cv ∧ PySem.W.kitOne K t cv = some b ∧ Q (.bl b) H) := by
  subst hK
  exact call_isinst
end
structure FunL (K : PySem.W.Frag) (x qual : Str) (st : Stmt) (f : Addr) (fd : FuncData) (c : Addr) : Prop where
  ex : ∃ (oc : Value) (od : Option Addr) (kV doc pm : Value) (an : Option Addr) (ct : Value) (osl : Array (Option Value)),
    fd = PySem.W.fnOf x qual (defArgs st) (defBody st) (defScope st) .none kV doc pm an (.ref c) ct ∧ K.lookup f = some ⟨oc, od, .func fd, osl⟩ ∧ PySem.W.codeIn K (.ref c) qual = true
  kp : PySem.W.keepIn K (.ref f) = true
theorem FunL.fn {K : PySem.W.Frag} {x qual : Str} {st : Stmt} {f c : Addr} {fd : FuncData} (F : FunL K x qual st f fd c) : Fun K x qual st f fd := by
  obtain ⟨oc, od, kV, doc, pm, an, ct, osl, e, lk, hcd⟩ := F.ex
  exact ⟨⟨oc, od, kV, doc, pm, an, .ref c, ct, osl, e, lk, hcd⟩, F.kp⟩
theorem FunL.okC {P : Program} {w : World} {K : PySem.W.Frag} {mg : Str → Option Value} {base : Heap} {CX : CXT} {x qual : Str} {st : Stmt} {f c : Addr} {fd : FuncData} {N ps : List Str} {k : Nat} {sp : Sp} (F : FunL K x qual st f fd c) (S : FnScope N ps (defScope st)) (len : ∀ vs H Q E, sp vs H Q E → vs.length = ps.length)
    (hbody : ∀ (A : Around) (outer : List Env) (s : Shared) (H : Hp) (vs : List V) (Q : VK) (E : XK), Room k (A.deeper (envOfC qual (defScope st) s.heap.objs.size f (.ref c))) → sp vs H Q E →
      ∃ t, PSs (cxOf CX P w K mg base N qual (defScope st) f (.ref c) A outer s H E).nox (defBody st) t ∧ t { nx := fun _ H' => Q .non H', rt := Q } (start N vs) H) : FnOk P w K mg base CX (k + 1) f fd ps sp := by
  obtain ⟨oc, od, kV, doc, pm, an, ct, osl, rfl, lk, hcd⟩ := F.ex
  refine fn_of lk hcd S len fun A outer s H vs Q E hr hsp => ?_
  obtain ⟨t, h, q⟩ := hbody A outer s H vs Q E hr hsp
  exact ⟨t, h.nox, q⟩
end L2
-- MOD Ex15
/-! Texts: split, startswith, steps of two, f-texts, int(text). -/
namespace L2
open PySem PySem.Spec PyProof.Rows
/-! ### a text put together of words without the sign parts into them again -/
/-! ### each second one -/
end L2
-- MOD Ex16
/-! The rules over texts. -/
namespace L2
open PySem PySem.Spec PyProof.Rows
section
variable {X : Cx}
/-! ### f-texts -/
end
end L2
-- MOD Ex17
/-! A dict whose keys are texts and None. -/
namespace L2
open PySem PySem.Spec PyProof.Rows
noncomputable abbrev OKey := Option Str
section
variable {P : Program} {w : World} {H : Hp} {h : Heap} {a : Addr} {kvs : List (OKey × V)}
end
section
variable {X : Cx} {o i e value : Expr} {pos pos' tpos : Pos} {td ty tv tk : TE}
end
end L2
-- MOD Ex18
/-! Numbers as figures, words with points between. -/
namespace L2
open PySem PySem.Spec PyProof.Rows
end L2
-- MOD ExW
/-! The judgements as closed words of their own, and each rule over them. -/
namespace L2.W
open PySem PySem.Spec PyProof.Rows
@[irreducible] noncomputable def PE (X : Cx) (e : Expr) (t : TE) : Prop := L2.PE X e t
theorem ePE : @L2.PE = @PE := by unfold PE; rfl
@[irreducible] noncomputable def PT (X : Cx) (e : Expr) (t : TT) : Prop := L2.PT X e t
theorem ePT : @L2.PT = @PT := by unfold PT; rfl
@[irreducible] noncomputable def PW (X : Cx) (e : Expr) (t : TT) : Prop := L2.PW X e t
theorem ePW : @L2.PW = @PW := by unfold PW; rfl
@[irreducible] noncomputable def PA (X : Cx) (es : List Expr) (t : TA) : Prop := L2.PA X es t
theorem ePA : @L2.PA = @PA := by unfold PA; rfl
@[irreducible] noncomputable def PS (X : Cx) (st : Stmt) (t : TS) : Prop := L2.PS X st t
theorem ePS : @L2.PS = @PS := by unfold PS; rfl
@[irreducible] noncomputable def PSs (X : Cx) (st : List Stmt) (t : TS) : Prop := L2.PSs X st t
theorem ePSs : @L2.PSs = @PSs := by unfold PSs; rfl
@[irreducible] noncomputable def PG (X : Cx) (g : Expr) (t : TG) : Prop := L2.PG X g t
theorem ePG : @L2.PG = @PG := by unfold PG; rfl
@[irreducible] noncomputable def PGs (X : Cx) (ts : List Expr) (t : TGs) : Prop := L2.PGs X ts t
theorem ePGs : @L2.PGs = @PGs := by unfold PGs; rfl
@[irreducible] noncomputable def PI (X : Cx) (tg iter : Expr) (wi : TI) : Prop := L2.PI X tg iter wi
theorem ePI : @L2.PI = @PI := by unfold PI; rfl
@[irreducible] noncomputable def PFs (X : Cx) (ifs : List Expr) (t : TT) : Prop := L2.PFs X ifs t
theorem ePFs : @L2.PFs = @PFs := by unfold PFs; rfl
noncomputable def ps_if := by have h := @L2.ps_if; rw [ePS, ePSs, ePT] at h; exact @h
noncomputable def pe_fld := by have h := @L2.pe_fld; rw [ePE] at h; exact @h
noncomputable def pt_val := by have h := @L2.pt_val; rw [ePE, ePT] at h; exact @h
noncomputable def ps_asg := by have h := @L2.ps_asg; rw [ePE, ePS, ePG] at h; exact @h
noncomputable def pe_callTy := by have h := @L2.pe_callTy; rw [ePE, ePA] at h; exact @h
noncomputable def pe_callB := by have h := @L2.pe_callB; rw [ePE, ePA] at h; exact @h
noncomputable def ps_ret := by have h := @L2.ps_ret; rw [ePE, ePS] at h; exact @h
noncomputable def fn_of := by have h := @L2.fn_of; rw [ePSs] at h; exact @h
noncomputable def pe_make := by have h := @L2.pe_make; rw [ePE, ePA] at h; exact @h
noncomputable def pe_ix := by have h := @L2.pe_ix; rw [ePE] at h; exact @h
noncomputable def pe_un := by have h := @L2.pe_un; rw [ePE] at h; exact @h
noncomputable def pe_bm := by have h := @L2.pe_bm; rw [ePE, ePA] at h; exact @h
noncomputable def pw_and1 := by have h := @L2.pw_and1; rw [ePT, ePW] at h; exact @h
noncomputable def pe_and := by have h := @L2.pe_and; rw [ePE] at h; exact @h
noncomputable def pe_bm0 := by have h := @L2.pe_bm0; rw [ePE] at h; exact @h
noncomputable def pe_op := by have h := @L2.pe_op; rw [ePE] at h; exact @h
noncomputable def pv := by have h := @L2.pv; rw [ePE] at h; exact @h
noncomputable def ps_fld := by have h := @L2.ps_fld; rw [ePE, ePS] at h; exact @h
noncomputable def pss_one := by have h := @L2.pss_one; rw [ePS, ePSs] at h; exact @h
noncomputable def pe_meth0 := by have h := @L2.pe_meth0; rw [ePE] at h; exact @h
noncomputable def pe_bltn := by have h := @L2.pe_bltn; rw [ePE] at h; exact @h
noncomputable def pgs_nil := by have h := @L2.pgs_nil; rw [ePGs] at h; exact @h
noncomputable def pg_tup := by have h := @L2.pg_tup; rw [ePG, ePGs] at h; exact @h
noncomputable def pss_cons := by have h := @L2.pss_cons; rw [ePS, ePSs] at h; exact @h
noncomputable def bin := by have h := @L2.bin; rw [ePE] at h; exact @h
noncomputable def pc_notN := by have h := @L2.pc_notN; rw [ePE] at h; exact @h
noncomputable def pss_never := by have h := @L2.pss_never; rw [ePSs] at h; exact @h
noncomputable def pe_glob := by have h := @L2.pe_glob; rw [ePE] at h; exact @h
noncomputable def pgs_cons := by have h := @L2.pgs_cons; rw [ePG, ePGs] at h; exact @h
noncomputable def ps_while := by have h := @L2.ps_while; rw [ePS, ePSs, ePT] at h; exact @h
noncomputable def pe_var := by have h := @L2.pe_var; rw [ePE] at h; exact @h
noncomputable def pg_name := by have h := @L2.pg_name; rw [ePG] at h; exact @h
noncomputable def pi_range1 := by have h := @L2.pi_range1; rw [ePA, ePI] at h; exact @h
noncomputable def pt_truth := by have h := @L2.pt_truth; rw [ePE, ePT] at h; exact @h
noncomputable def ps_for := by have h := @L2.ps_for; rw [ePS, ePSs, ePG, ePI] at h; exact @h
noncomputable def pt_cmpR := by have h := @L2.pt_cmpR; rw [ePE, ePT] at h; exact @h
noncomputable def pe_call := by have h := @L2.pe_call; rw [ePE, ePA] at h; exact @h
noncomputable def pc_isN := by have h := @L2.pc_isN; rw [ePE] at h; exact @h
noncomputable def methcall_of := by have h := @L2.methcall_of; rw [ePE] at h; exact @h
noncomputable def pw_or1 := by have h := @L2.pw_or1; rw [ePT, ePW] at h; exact @h
noncomputable def pe_tup := by have h := @L2.pe_tup; rw [ePE, ePA] at h; exact @h
noncomputable def pe_one := by have h := @L2.pe_one; rw [ePE] at h; exact @h
noncomputable def binT := by have h := @L2.binT; rw [ePE] at h; exact @h
noncomputable def pe_cmpR := by have h := @L2.pe_cmpR; rw [ePE] at h; exact @h
noncomputable def pss_nil := by have h := @L2.pss_nil; rw [ePSs] at h; exact @h
noncomputable def PW.pt := by have h := @L2.PW.pt; rw [ePT, ePW] at h; exact @h
noncomputable def pe_meth := by have h := @L2.pe_meth; rw [ePE, ePA] at h; exact @h
noncomputable def pw_and := by have h := @L2.pw_and; rw [ePT, ePW] at h; exact @h
noncomputable def pt_cmp := by have h := @L2.pt_cmp; rw [ePT] at h; exact @h
noncomputable def pe_slice := by have h := @L2.pe_slice; rw [ePE] at h; exact @h
noncomputable def pe_chain := by have h := @L2.pe_chain; rw [ePE] at h; exact @h
noncomputable def pa_nil := by have h := @L2.pa_nil; rw [ePA] at h; exact @h
noncomputable def pe_int := by have h := @L2.pe_int; rw [ePE] at h; exact @h
noncomputable def pi_list := by have h := @L2.pi_list; rw [ePE, ePI] at h; exact @h
noncomputable def PT.nox := by have h := @L2.PT.nox; rw [ePT] at h; exact @h
noncomputable def pe_str := by have h := @L2.pe_str; rw [ePE] at h; exact @h
noncomputable def ps_set := by have h := @L2.ps_set; rw [ePE, ePS] at h; exact @h
noncomputable def pe_bl := by have h := @L2.pe_bl; rw [ePE] at h; exact @h
noncomputable def po_some := by have h := @L2.po_some; rw [ePE] at h; exact @h
noncomputable def Fun.ok := by have h := @L2.Fun.ok; rw [ePSs] at h; exact @h
noncomputable def pt_not := by have h := @L2.pt_not; rw [ePT] at h; exact @h
noncomputable def pe_not := by have h := @L2.pe_not; rw [ePE] at h; exact @h
noncomputable def pg_sub := by have h := @L2.pg_sub; rw [ePE, ePG] at h; exact @h
noncomputable def pe_non := by have h := @L2.pe_non; rw [ePE] at h; exact @h
noncomputable def pe_lst := by have h := @L2.pe_lst; rw [ePE, ePA] at h; exact @h
noncomputable def PSs.nox := by have h := @L2.PSs.nox; rw [ePSs] at h; exact @h
noncomputable def pa_cons := by have h := @L2.pa_cons; rw [ePE, ePA] at h; exact @h
noncomputable def PE.nox := by have h := @L2.PE.nox; rw [ePE] at h; exact @h
noncomputable def ps_expr := by have h := @L2.ps_expr; rw [ePE, ePS] at h; exact @h
noncomputable def pw_or := by have h := @L2.pw_or; rw [ePT, ePW] at h; exact @h
noncomputable def pc_din := by have h := @L2.pc_din; rw [ePE] at h; exact @h
noncomputable def pe_dnewK := by have h := @L2.pe_dnewK; rw [ePE] at h; exact @h
noncomputable def pc_dnotin := by have h := @L2.pc_dnotin; rw [ePE] at h; exact @h
noncomputable def ps_dput := by have h := @L2.ps_dput; rw [ePE, ePS] at h; exact @h
noncomputable def pe_dget := by have h := @L2.pe_dget; rw [ePE] at h; exact @h
noncomputable def comp_run := by have h := @L2.comp_run; rw [ePE, ePG, ePFs] at h; exact @h
noncomputable def ps_setComp := by have h := @L2.ps_setComp; rw [ePE, ePS, ePG, ePI, ePFs] at h; exact @h
noncomputable def pe_comp := by have h := @L2.pe_comp; rw [ePE, ePG, ePI, ePFs] at h; exact @h
noncomputable def pf_one := by have h := @L2.pf_one; rw [ePT, ePFs] at h; exact @h
noncomputable def pf_nil := by have h := @L2.pf_nil; rw [ePFs] at h; exact @h
noncomputable def pi_str := by have h := @L2.pi_str; rw [ePE, ePI] at h; exact @h
noncomputable def Fun.okC := by have h := @L2.Fun.okC; rw [ePSs] at h; exact @h
noncomputable def pi_zip := by have h := @L2.pi_zip; rw [ePA, ePI] at h; exact @h
noncomputable def pg_tupK := by have h := @L2.pg_tupK; rw [ePG, ePGs] at h; exact @h
noncomputable def pe_fldK := by have h := @L2.pe_fldK; rw [ePE] at h; exact @h
noncomputable def pe_bmK := by have h := @L2.pe_bmK; rw [ePE, ePA] at h; exact @h
noncomputable def pi_listK := by have h := @L2.pi_listK; rw [ePE, ePI] at h; exact @h
noncomputable def pa_lists := by have h := @L2.pa_lists; rw [ePA] at h; exact @h
noncomputable def pa_consts := by have h := @L2.pa_consts; rw [ePA] at h; exact @h
noncomputable def const_pe := by have h := @L2.const_pe; rw [ePE] at h; exact @h
noncomputable def pe_rev := by have h := @L2.pe_rev; rw [ePE] at h; exact @h
noncomputable def pe_minKey := by have h := @L2.pe_minKey; rw [ePE, ePA] at h; exact @h
noncomputable def pi_enum := by have h := @L2.pi_enum; rw [ePA, ePI] at h; exact @h
noncomputable def FunL.okC := by have h := @L2.FunL.okC; rw [ePSs] at h; exact @h
end L2.W
-- MOD Exc
/-! Exceptions of own classes under ValueError: raised, passed on, caught. -/
namespace L2
open PySem PySem.Spec PyProof.Rows
noncomputable def XO (C a : Addr) : HO := .ext fun h => ∃ o vs, h.get? a = some o ∧ o.cls = .ref C ∧ o.data = .fields vs
section
variable {P : Program} {w : World} {H : Hp} {h : Heap} {a C : Addr} {o : HO}
theorem xo_ok {ob : Obj} {vs : Array Value} (e : h.get? a = some ob) (c : ob.cls = .ref C) (d : ob.data = .fields vs) : ObjOk P w H h a (XO C a) :=
  ⟨⟨ob, vs, e, c, d⟩, ⟨ob, e⟩, fun _ _ ⟨o, vs, e, c, d⟩ k => ⟨o, vs, k _ e, c, d⟩⟩
theorem xo_of (ok : HOk P w H h) (e : H a = some (XO C a)) : ∃ o vs, h.get? a = some o ∧ o.cls = .ref C ∧ o.data = .fields vs := (show ObjOk P w H h a (XO C a) from ok a _ e).1
theorem ObjOk.ex (x : ObjOk P w H h a o) : ∃ ob, h.get? a = some ob := by
  cases o with
  | lst xs => obtain ⟨_, _, _, _, e⟩ := x; exact ⟨_, e⟩
  | tup xs => obtain ⟨_, _, _, ob, e, _⟩ := x; exact ⟨_, e⟩
  | dK kvs => obtain ⟨_, _, _, _, o, _, _, e, _⟩ := x; exact ⟨_, e⟩
  | dT kvs => obtain ⟨_, _, _, _, o, _, _, e, _⟩ := x; exact ⟨_, e⟩
  | set S n => obtain ⟨o, _, _, _, e, _⟩ := x; exact ⟨_, e⟩
  | ins C dx fs => obtain ⟨_, _, _, e, _⟩ := x; exact ⟨_, e⟩
  | own y => exact x
  | xd fs => obtain ⟨_, ⟨_, _, _, e, _⟩, _⟩ := x; exact ⟨_, e⟩
  | rng lo hi => obtain ⟨_, _, _, e⟩ := x; exact ⟨_, e⟩
  | frz ob u => exact ⟨_, x.1⟩
  | tbl ps => exact ⟨_, x⟩
  | met f y => exact ⟨_, x⟩
  | ext φ => exact x.2.1
theorem HOk.noth (ok : HOk P w H h) (e : h.get? a = none) : H a = none := by
  cases q : H a with
  | none => rfl
  | some u =>
    obtain ⟨ob, eb⟩ := (ok a u q).ex
    rw [e] at eb
    cases eb
end
noncomputable def Tr (G : Addr → Prop) (H : Hp) (h : Heap) (e : Addr) : Prop := ∃ o vs a0 T oT ts, h.get? e = some o ∧ o.data = .fields vs ∧ vs[0]? = some a0 ∧ vs[1]? = some (.ref T) ∧ G T ∧ H T = none ∧ h.get? T = some oT ∧ oT.data = .fields ts ∧ ts[3]? = some .none
noncomputable def Fresh (h : Heap) (e : Addr) : Prop := ∃ o vs a0, h.get? e = some o ∧ o.data = .fields vs ∧ vs[0]? = some a0 ∧ vs[1]? = some .none
theorem Tr.imp {G G' : Addr → Prop} {H : Hp} {h : Heap} {e : Addr} (x : Tr G H h e) (f : ∀ T, G T → G' T) : Tr G' H h e :=
  let ⟨o, vs, a0, T, oT, ts, h1, h2, h3, h4, g, r⟩ := x
  ⟨o, vs, a0, T, oT, ts, h1, h2, h3, h4, f _ g, r⟩
noncomputable def CXM (P : Program) (w : World) : CXT := fun outer H s E u s' => ∃ e C H', u = .ref e ∧ s'.os = s.os ∧ AllBare s'.gens ∧ Un (frs outer) [] H H' s.heap s'.heap ∧ HOk P w H' s'.heap ∧ H' e = some (XO C e) ∧ Tr (fun T => s.heap.get? T = none) H' s'.heap e ∧ E (.ref C) (some e) H'
theorem calmM {P : Program} {w : World} : Calm (CXM P w) := fun _ _ _ _ _ ⟨_, _, _, _, _, _, _, _, _, _, q⟩ => q

/-! ### what passing writes -/
structure Mvd (l : List Env) (e T0 : Addr) (cls a0 fl : Value) (h h' : Heap) : Prop where
  keep : ∀ b o, h.get? b = some o → b ≠ e → b ≠ T0 → b ∉ frs l → h'.get? b = some o
  slot : ∀ b o, h.get? b = some o → b ∈ frs l → ∃ sl, h'.get? b = some { o with slots := sl }
  tr : ∃ oe vs T oT ts, h'.get? e = some oe ∧ oe.cls = cls ∧ vs[0]? = some a0 ∧ oe.data = .fields vs ∧ vs[1]? = some (.ref T) ∧ (T = T0 ∨ h.get? T = none) ∧ T ≠ e ∧ h'.get? T = some oT ∧ oT.data = .fields ts ∧ ts[3]? = some fl
noncomputable abbrev bas (h : Heap) (l : List Env) (e T0 : Addr) : Heap := PySem.W.hideAll h (e :: T0 :: frs l)
section
variable {base h h' : Heap} {l : List Env} {e T0 : Addr} {cls a0 fl : Value}
theorem moved (hl : h.FunFrames base l) (st : (bas h l e T0).StaysIn h') (ff : h'.FunFrames (bas h l e T0) l) (tr : h'.TracedAtW (bas h l e T0) e cls a0 fl) (up : h.UpToSlots h') : Mvd l e T0 cls a0 fl h h' := by
  refine ⟨fun b o q n1 n2 n3 => st b o (PySem.W.hideAll_get _ q ?_), fun b o q hb => ?_, ?_⟩
  · intro z
    rcases List.mem_cons.mp z with z | z
    · exact n1 z
    · rcases List.mem_cons.mp z with z | z
      · exact n2 z
      · exact n3 z
  · obtain ⟨_, o', ho, hn⟩ := hl.mem hb
    rw [q] at ho
    cases ho
    exact up b o q hn
  · obtain ⟨oe, vs, T, oT, ts, he, ⟨hc, h0⟩, hd, h1, hn, hne, hT, hdT, h3⟩ := tr
    refine ⟨oe, vs, T, oT, ts, he, hc, h0, hd, h1, ?_, hne, hT, hdT, h3⟩
    cases q : h.get? T with
    | none => exact .inr rfl
    | some o =>
      refine .inl (Classical.byContradiction fun nT => ?_)
      have : (bas h l e T0).get? T = some o := PySem.W.hideAll_get _ q fun z => by
        rcases List.mem_cons.mp z with z | z
        · exact hne z
        · rcases List.mem_cons.mp z with z | z
          · exact nT z
          · obtain ⟨_, o', ho, hnf⟩ := ff.mem z
            rw [hT] at ho
            cases ho
            exact hnf _ hdT
      rw [hn] at this
      cases this
theorem fly_of (hl : h.FunFrames base l) {oe oT : Obj} {vs ts : Array Value} (he : h.get? e = some oe) (hd : oe.data = .fields vs) (h0 : vs[0]? = some a0) (h1 : vs[1]? = some (.ref T0)) (hne : T0 ≠ e) (hT : h.get? T0 = some oT) (hdT : oT.data = .fields ts) (h3 : ts[3]? = some .none) :
    Heap.FlyingW (bas h l e T0) l e oe.cls a0 h :=
  ⟨fun b o q => PySem.W.of_hideAll _ q, PySem.W.hideAll_none _ (.head _), PySem.W.funFrames_hide hl fun env he a ea => .tail _ (.tail _ (List.mem_filterMap.mpr ⟨env, he, ea⟩)), oe, vs, T0, oT, ts, he, ⟨rfl, h0⟩, hd, h1, PySem.W.hideAll_none _ (.tail _ (.head _)), hne, hT, hdT, h3⟩
end
section
variable {X : Cx} {pins : List (Addr × Obj)} {σ : St} {H : Hp} {s : Shared} {e C T0 : Addr} {h' : Heap} {cls a0 fl : Value}
theorem Mvd.ex (m : Mvd X.stack e T0 cls a0 fl s.heap h') (b : Addr) (o : Obj) (q : s.heap.get? b = some o) (h2 : b ≠ T0) : ∃ o', h'.get? b = some o' := by
  obtain ⟨oe, _, _, _, _, he, _⟩ := m.tr
  by_cases h1 : b = e
  · rw [h1]; exact ⟨oe, he⟩
  · by_cases h3 : b ∈ frs X.stack
    · obtain ⟨sl, z⟩ := m.slot b o q h3
      exact ⟨_, z⟩
    · exact ⟨o, m.keep b o q h1 h2 h3⟩
theorem Mvd.hok (m : Mvd X.stack e T0 (.ref C) a0 fl s.heap h') (I : Inv X pins σ H s) (he : H e = some (XO C e)) (hT : T0 = e ∨ H T0 = none) : HOk X.prog X.w H h' := fun b u eb => by
  by_cases h1 : b = e
  · subst h1
    rw [he] at eb
    cases eb
    obtain ⟨oe, vs, _, _, _, h2, h3, _, h4, _⟩ := m.tr
    exact xo_ok h2 h3 h4
  · refine (I.hok b u eb).stay (fun c v hc q => m.keep c v q ?_ ?_ ?_) (fun _ q => q) fun _ _ q => q
    · rintro rfl
      rcases hc with z | z
      · exact h1 z.symm
      · rw [he] at z; cases z
    · rintro rfl
      rcases hT with z | z
      · subst z
        rcases hc with z | z
        · exact h1 z.symm
        · rw [he] at z; cases z
      · rcases hc with y | y
        · rw [← y, z] at eb; cases eb
        · rw [z] at y; cases y
    · intro z
      have := I.stkFree c z
      rcases hc with y | y
      · rw [← y, this] at eb; cases eb
      · rw [this] at y; cases y
theorem Inv.moved {t' : Nat} (I : Inv X pins σ H s) (he : H e = some (XO C e)) (hT : H T0 = none) (h0 : X.s₀.heap.get? T0 = none) (hp : ∀ p ∈ X.pn ++ pins, p.1 ≠ T0) {oT : Obj} {ts : Array Value} (eT : s.heap.get? T0 = some oT) (dT : oT.data = .fields ts)
    (m : Mvd X.stack e T0 (.ref C) a0 fl s.heap h') : Inv X pins σ H { s with heap := h', toks := t' } := by
  have nL : T0 ≠ X.env.locals := by
    rintro rfl
    obtain ⟨_, ⟨o, es, ep, ho, hd, _⟩, _⟩ := I.loc
    rw [ho] at eT; cases eT; rw [hd] at dT; cases dT
  have nC : ∀ x c, X.env.cells.lookup x = some c → c ≠ T0 := by
    rintro x c hc rfl
    obtain ⟨v, o, ho, hd⟩ := I.cell x c hc
    rw [ho] at eT; cases eT; rw [hd] at dT; cases dT
  have neS : ∀ b, H b = none → b ≠ e := fun b n z => by rw [z, he] at n; cases n
  have sub : ∀ b, b ∈ X.fs → b ∈ frs X.stack := fun b hb => by
    rcases I.ok.stk with z | ⟨z, hf⟩
    · rw [z]; exact hb
    · rw [z]; unfold frs; rw [List.filterMap_cons, hf]; exact List.mem_cons_of_mem _ hb
  refine I.step (g' := s.gens) (d' := s.drawn) (ch := [T0]) (fun b hb => ?_) (fun b o n1 n2 n3 q n => m.keep b o q (neS b n) (fun z => n3 (by simp [z])) fun z => (List.mem_cons.mp (I.stkSub b z)).elim n1 n2)
    (fun b o n1 n2 n3 q n => m.slot b o q (sub b n2)) (fun b o _ _ n => n) (fun b o n q => m.ex b o q fun z => n (by simp [z])) (fun _ _ q => q) (fun _ _ _ q => q) (fun b ps q => ⟨#[], by rw [q]; simp⟩) (fun mm hm => ?_) (m.hok I he (.inr hT)) I.bare
  · have : b = T0 := by simpa using hb
    subst this
    exact ⟨.inr h0, nL, nC, hp⟩
  · obtain ⟨o, es, ep, ho, hd, r⟩ := hm
    by_cases z : X.env.locals ∈ frs X.stack
    · obtain ⟨sl, q⟩ := m.slot _ _ ho z
      exact ⟨_, es, ep, q, hd, r⟩
    · exact ⟨o, es, ep, m.keep _ _ ho (neS _ I.free) (Ne.symm nL) z, hd, r⟩
theorem leave_cx {E : XK} {E' : Value → Shared → Prop} (I : Inv X pins σ H s) (hx : X.ex = []) (hs : X.stack = X.env :: X.outer) (hf : X.env.frame = some X.env.locals) (he : H e = some (XO C e)) (fl : Fresh s.heap e ∨ Tr (fun T => X.s₀.heap.get? T = none) H s.heap e) (q : E (.ref C) (some e) H) :
    wpAny (model X.prog X.w) X.A (leaving X.env (.ref e)) (fun _ s'' => CXM X.prog X.w X.outer X.H₀ X.s₀ E (.ref e) s'') E' s := by
  have hfr : X.A.frames = some (X.env :: X.outer) := by rw [← hs]; exact I.ok.frames
  have hl : s.heap.FunFrames X.base (X.env :: X.outer) := by rw [← hs]; exact I.stack
  obtain ⟨ox, vx, hox, hcx, hdx⟩ := xo_of I.hok he
  have fin : ∀ (T0 : Addr) (h' : Heap) (a0 : Value), (T0 = e ∨ (H T0 = none ∧ X.s₀.heap.get? T0 = none)) → Mvd X.stack e T0 (.ref C) a0 .none s.heap h' → CXM X.prog X.w X.outer X.H₀ X.s₀ E (.ref e) { s with heap := h' } := by
    intro T0 h' a0 hT m
    have hT1 : T0 = e ∨ H T0 = none := hT.imp_right fun z => z.1
    have back : ∀ b o, X.s₀.heap.get? b = some o → ∃ o', s.heap.get? b = some o' := fun b o z => I.base.there b o z (by rw [hx]; simp)
    have nT : ∀ b o, X.s₀.heap.get? b = some o → H b = none → b ≠ T0 := fun b o z n y => by
      rcases hT with w | ⟨_, w⟩
      · rw [y, w, he] at n; cases n
      · rw [y, w] at z; cases z
    have nE : ∀ b, H b = none → b ≠ e := fun b n z => by rw [z, he] at n; cases n
    have nL : ∀ b o, X.s₀.heap.get? b = some o → b ≠ X.env.locals := fun b o z => Nat.ne_of_lt (Nat.lt_of_lt_of_le (Heap.lt_size z) I.ok.above)
    have inS : ∀ b, b ∈ frs X.stack → b = X.env.locals ∨ b ∈ frs X.outer := fun b z => List.mem_cons.mp (I.stkSub b z)
    obtain ⟨oe, vs, T, oT, ts, h1, h2, h3, h4, h5, h6, h7, h8, h9, h10⟩ := m.tr
    refine ⟨e, C, H, rfl, I.os, I.bare, ⟨fun b o z n hb _ => ?_, fun b o z n hb _ => ?_, fun b o z n _ => I.base.free b o z n (by rw [hx]; simp), fun b o z _ => ?_, I.base.tups, I.base.frzs, I.base.tbls⟩, m.hok I he hT1, he, ⟨oe, vs, a0, T, oT, ts, h1, h4, h3, h5, ?_, ?_, h8, h9, h10⟩, q⟩
    · have n' := I.base.free b o z n (by rw [hx]; simp)
      exact m.keep b o (I.base.keep b o z n hb (by rw [hx]; simp)) (nE b n') (nT b o z n') fun y => (inS b y).elim (nL b o z) hb
    · obtain ⟨sl, z1⟩ := I.base.slot b o z n hb (by rw [hx]; simp)
      obtain ⟨sl', z2⟩ := m.slot b _ z1 (by rw [hs]; unfold frs; rw [List.filterMap_cons, hf]; exact List.mem_cons_of_mem _ hb)
      exact ⟨sl', z2⟩
    · obtain ⟨o', z1⟩ := back b o z
      by_cases y : b = T0
      · rcases hT with w | ⟨_, w⟩
        · rw [y, w]; exact ⟨oe, h1⟩
        · rw [y, w] at z; cases z
      · exact m.ex b o' z1 y
    · show X.s₀.heap.get? T = none
      rcases h6 with z | z
      · rcases hT with y | ⟨_, y⟩
        · exact absurd (z.trans y) h7
        · rw [z]; exact y
      · cases y : X.s₀.heap.get? T with
        | none => rfl
        | some o =>
          obtain ⟨o', y1⟩ := back T o y
          rw [z] at y1; cases y1
    · rcases h6 with z | z
      · rcases hT with y | ⟨y, _⟩
        · exact absurd (z.trans y) h7
        · rw [z]; exact y
      · exact I.hok.noth z
  rcases fl with ⟨oe, vs, a0, h1, h2, h3, h4⟩ | ⟨oe, vs, a0, T0, oT, ts, h1, h2, h3, h4, g, n, h5, h6, h7⟩
  · rw [h1] at hox; cases hox
    refine wpAny_leaving_firstW (base := bas s.heap (X.env :: X.outer) e e) (a0 := a0) hfr (PySem.W.funFrames_hide hl fun env he a ea => .tail _ (.tail _ (List.mem_filterMap.mpr ⟨env, he, ea⟩))) hf h1 (fun b o z => PySem.W.of_hideAll _ z) (PySem.W.hideAll_none _ (.head _)) h2 h4 h3 fun h' hL => ?_
    obtain ⟨k1, k2, k3, k4⟩ := hL
    rw [hcx] at k3
    refine fin e h' a0 (.inl rfl) ?_
    rw [hs]
    exact L2.moved hl k1 k2 k3 k4
  · rw [h1] at hox; cases hox
    have hne : T0 ≠ e := fun z => by rw [z, he] at n; cases n
    have F := fly_of hl h1 h2 h3 h4 hne h5 h6 h7
    rw [hcx] at F
    refine wpAny_leaving_nextW hfr F.2.2.1 hf F.2.2.2 F.1 F.2.1 fun h' hL => ?_
    obtain ⟨k1, k2, k3, k4⟩ := hL
    have m := L2.moved hl k1 k2 k3 k4
    exact fin T0 h' a0 (.inr ⟨n, g⟩) (by rw [hs]; exact m)
end
end L2
-- MOD Exc2
/-! raise C(..), an exception of a callee. -/
namespace L2
open PySem PySem.Spec PyProof.Rows
theorem exc_obj {K : PySem.W.Frag} {h : Heap} {C : Addr} {bmB : List Value} {newId : String} (X : K.In h) (q : PySem.W.excIn K C bmB newId = true) :
    ∃ bm N nm q bs hdct sn sub ab col dd k0 k1 k2 k3 k5 mN, h.get? C = some (excClassObj nm q C N bs bm hdct sn sub ab col dd k0 k1 k2 k3 k5 newId) ∧ h.Ns N mN ∧ mN "__init__" = none ∧ OwnTail h bmB bm := by
  unfold PySem.W.excIn at q
  split at q
  · rename_i dd cd sl ho
    split at q
    · rename_i C' bm k0 k1 k2 k3 n k5 hm hs
      simp only [Bool.and_eq_true, beq_iff_eq, Bool.not_eq_true'] at q
      obtain ⟨⟨⟨⟨⟨rfl, rfl⟩, hdel⟩, ht⟩, hok⟩, hni⟩ := q
      obtain ⟨nm, bs, mro, ns, qn, hd, sn, sub, ab, col, del⟩ := cd
      dsimp only at hm hdel hok hni
      subst hm hdel
      have hsl : sl = #[k0, k1, k2, k3, some (.builtin n), k5] := by
        obtain ⟨l⟩ := sl
        simp only at hs
        rw [hs]
      subst hsl
      exact ⟨bm, ns, nm, qn, bs, hd, sn, sub, ab, col, dd, k0, k1, k2, k3, k5, _, X _ _ ho, .of_isNs (PySem.W.isNs_of_in X hok), PySem.W.nsMap_none_of_in X hok hni, PySem.W.tail_of_in X ht⟩
    · cases q
  · cases q
section
variable {X : Cx} {pins : List (Addr × Obj)} {σ : St} {H H' : Hp} {s : Shared} {e C : Addr} {h h' : Heap} {o : HO}
theorem Un.born {fs ex : List Addr} (k : ∀ b u, h.get? b = some u → h'.get? b = some u) (hp : h.get? e = none) (hn : H e = none) : Un fs ex H (upd H e o) h h' where
  keep := fun b u q _ _ _ => k b u q
  slot := fun b u q _ _ _ => ⟨u.slots, k b u q⟩
  free := fun b u q n _ => by rw [upd_ne (fun z => by rw [z, hp] at q; cases q)]; exact n
  there := fun b u q _ => ⟨u, k b u q⟩
  tups := fun b xs q => by rw [upd_ne (ne_of_none q hn)]; exact q
  frzs := fun b u xs q => by rw [upd_ne (ne_of_none q hn)]; exact q
  tbls := fun b ps q => ⟨#[], by rw [upd_ne (ne_of_none q hn), q]; simp⟩
theorem HOk.born {P : Program} {w : World} (x : HOk P w H h) (k : ∀ b u, h.get? b = some u → h'.get? b = some u) (hp : h.get? e = none) (new : ObjOk P w (upd H e o) h' e o) : HOk P w (upd H e o) h' := fun b u q => by
  have hn := x.noth hp
  by_cases hb : b = e
  · subst hb; rw [upd_same] at q; cases q; exact new
  · rw [upd_ne hb] at q
    exact (x b u q).stay (fun c v _ q => k c v q) (fun c q => by rw [upd_ne (ne_of_none q hn)]; exact q) fun c xs q => by rw [upd_ne (ne_of_none q hn)]; exact q
theorem Inv.born {t' : Nat} (I : Inv X pins σ H s) (k : ∀ b u, s.heap.get? b = some u → h'.get? b = some u) (hp : s.heap.get? e = none) (new : ObjOk X.prog X.w (upd H e o) h' e o) : Inv X pins σ (upd H e o) { s with heap := h', toks := t' } :=
  I.un (Un.born k hp (I.hok.noth hp)) (I.hok.born k hp new)
theorem Inv.cx {s' : Shared} {E : XK} {u : Value} (I : Inv X pins σ H s) (c : CXM X.prog X.w X.stack H s E u s') :
    ∃ e C H', u = .ref e ∧ Inv X pins σ H' s' ∧ H' e = some (XO C e) ∧ Tr (fun T => s.heap.get? T = none) H' s'.heap e ∧ E (.ref C) (some e) H' := by
  obtain ⟨e, C, H', rfl, os, bare, un, hok, he, tr, q⟩ := c
  exact ⟨e, C, H', rfl, I.call' (ch := []) os un hok bare (fun b z => absurd z (by simp)), he, tr, q⟩
theorem Inv.back (I : Inv X pins σ H s) (hx : X.ex = []) {T : Addr} (n : s.heap.get? T = none) : X.s₀.heap.get? T = none := by
  cases y : X.s₀.heap.get? T with
  | none => rfl
  | some o =>
    obtain ⟨o', y1⟩ := I.base.there T o y (by rw [hx]; simp)
    rw [n] at y1; cases y1
end
section
variable {P : Program} {w : World} {K : PySem.W.Frag} {mg : Str → Option Value} {base : Heap} {N : List Str} {qual : Str} {scope : Scope} {f : Addr} {cd : Value} {A : Around} {outer : List Env} {s : Shared} {H : Hp} {E : XK}
noncomputable abbrev cxM (P : Program) (w : World) (K : PySem.W.Frag) (mg : Str → Option Value) (base : Heap) (N : List Str) (qual : Str) (scope : Scope) (f : Addr) (cd : Value) (A : Around) (outer : List Env) (s : Shared) (H : Hp) (E : XK) : Cx := cxOf (CXM P w) P w K mg base N qual scope f cd A outer s H E
theorem xe_new {pins : List (Addr × Obj)} {σ : St} {H' : Hp} {s' : Shared} {e C : Addr} (I : Inv (cxM P w K mg base N qual scope f cd A outer s H E) pins σ H' s') (he : H' e = some (XO C e)) (fl : Fresh s'.heap e ∨ Tr (fun T => s.heap.get? T = none) H' s'.heap e) (q : E (.ref C) (some e) H') :
    (cxM P w K mg base N qual scope f cd A outer s H E).xe (.ref e) s' := leave_cx I rfl rfl rfl he fl q
end
section
variable {X : Cx} {x : Str} {np cpos pos : Pos} {a : Expr} {as : List Expr} {t : TA} {C : Addr} {W : St → Addr → Hp → Prop}
theorem ps_raise (hc : PySem.W.excIn X.K C [.type "ValueError", .type "Exception", .type "BaseException", .type "object"] "ValueError.__new__" = true) (hg : Gl X x) (hm : X.mg x = some (.ref C)) (hcm : X.calm = true) (ha : PA X (a :: as) t)
    (hx : ∀ pins σ H s e, Inv X pins σ H s → H e = some (XO C e) → Fresh s.heap e → W σ e H → X.xe (.ref e) s) (hdb : (x == ("__debug__" : Str)) = false := by decide)
    (he : starEach (a :: as) X.env = (false, eval a X.env) :: starEach as X.env := by rfl) (hpl : (backTo cpos (starEach as X.env)).any (·.1) = false := by rfl) :
    PS X (.Raise (some (.Call (.Name x np) (a :: as) [] cpos)) none pos) (fun _ σ H => t σ H fun vs H1 => vs.length ≤ sizeLine ∧ ∀ e, H1 e = none → W σ e (upd H1 e (XO C e))) := by
  intro pins s σ H D I h
  obtain ⟨bm, N, nm, q, bs, hdct, sn, sub, ab, col, dd, k0, k1, k2, k3, k5, mN, hC, hN, hni, T⟩ := exc_obj I.ok.mod.kin hc
  have hA := ha cpos pins s σ H _ I h
  refine wpAny_Raise_call_subU (C := C) (nm := nm) (q := q) (N := N) (bs := bs) (bm := bm) (hdct := hdct) (sn := sn) (sub := sub) (ab := ab) (col := col) (dd := dd) (k0 := k0) (k1 := k1) (k2 := k2) (k3 := k3) (k5 := k5)
    PySem.F.excBase_ValueError PySem.F.excBase_ValueError.hasB PySem.F.excBase_ValueError (mN := mN) (T.hasType PySem.F.excBase_ValueError.hasBase) (I.ok.hd hcm) (by rw [he]; show (false || (backTo cpos (starEach as X.env)).any (·.1)) = false; rw [hpl]; rfl) hni (ld_glob I hg hm ⟨rfl, ?_⟩ hdb)
  rw [he] at hA ⊢
  refine Calls.evalArgs_plain (thn hA fun us s2 ⟨vs, H2, I2, r, hz, k⟩ => ⟨rfl, by rw [← r.length]; exact hz, I2.bk _ _ hC, hN.keeps I2.bk, T.keeps I2.bk, fun h' e hm => ?_⟩)
  obtain ⟨tt, h1, h2, h3⟩ := hm.there
  exact hx pins σ _ { s2 with heap := h' } e (I2.born (t' := s2.toks) (o := XO C e) hm.keeps hm.new (xo_ok h1 rfl rfl)) upd_same ⟨_, _, _, h1, rfl, rfl, rfl⟩ (k e (I2.hok.noth hm.new))
end
end L2
-- MOD Exc3
/-! try .. except C as e. -/
namespace L2
open PySem PySem.Spec PyProof.Rows
noncomputable abbrev TW := St → Addr → Addr → Hp → Prop
noncomputable def Cx.tri (X : Cx) (pins : List (Addr × Obj)) (W : TW) : Cx := { X with
  pn := X.pn ++ pins
  xe := fun u s' => ∃ e C σ' H', u = .ref e ∧ Inv X pins σ' H' s' ∧ H' e = some (XO C e) ∧ Tr (fun T => X.s₀.heap.get? T = none ∧ ∀ p ∈ X.pn ++ pins, p.1 ≠ T) H' s'.heap e ∧ W σ' e C H' }
noncomputable def Cx.hnd (X : Cx) (e : Addr) : Cx := { X with
  A := X.A.mark (some (.ref e))
  calm := false
  xe := fun _ _ => False }
section
variable {X : Cx} {pins pins' : List (Addr × Obj)} {σ : St} {H : Hp} {s : Shared} {W : TW} {e : Addr}
theorem Cx.Ok.tri (ok : X.Ok) : (X.tri pins W).Ok := ⟨ok.mod, ok.kind, ok.glob, ok.blt, ok.above, ok.inj, ok.has, ok.cab, ok.hd, ok.frames, ok.stk, ok.exf, ok.bs, ok.bsz, ok.noex, ok.exfs, ok.funs, ok.frf⟩
theorem Cx.Ok.untri (ok : (X.tri pins W).Ok) : X.Ok := ⟨ok.mod, ok.kind, ok.glob, ok.blt, ok.above, ok.inj, ok.has, ok.cab, ok.hd, ok.frames, ok.stk, ok.exf, ok.bs, ok.bsz, ok.noex, ok.exfs, ok.funs, ok.frf⟩
theorem Cx.Ok.hnd (ok : X.Ok) : (X.hnd e).Ok := ⟨ok.mod, ok.kind, ok.glob, ok.blt, ok.above, ok.inj, ok.has, ok.cab, (fun z => Bool.noConfusion (show false = true from z)), ok.frames, ok.stk, ok.exf, ok.bs, ok.bsz, ok.noex, ok.exfs, ok.funs, ok.frf⟩
theorem Inv.tri (I : Inv X pins σ H s) : Inv (X.tri pins W) [] σ H s := ⟨I.ok.tri, I.os, I.bare, I.base, I.loc, I.cell, I.free, I.freeC, fun p hp => I.pin p (by simpa [Cx.tri] using hp), I.hok, I.len⟩
theorem Inv.untri (I : Inv (X.tri pins W) pins' σ H s) : Inv X pins σ H s := ⟨I.ok.untri, I.os, I.bare, I.base, I.loc, I.cell, I.free, I.freeC, fun p hp => I.pin p (List.mem_append_left _ hp), I.hok, I.len⟩
theorem Inv.hnd (I : Inv X pins σ H s) : Inv (X.hnd e) pins σ H s := ⟨I.ok.hnd, I.os, I.bare, I.base, I.loc, I.cell, I.free, I.freeC, I.pin, I.hok, I.len⟩
theorem Inv.unhnd (ok : X.Ok) (I : Inv (X.hnd e) pins σ H s) : Inv X pins σ H s := ⟨ok, I.os, I.bare, I.base, I.loc, I.cell, I.free, I.freeC, I.pin, I.hok, I.len⟩
theorem SP.untri {D : Ends} {f : Flow} {s' : Shared} (h : SP (X.tri pins W) pins' D f s') : SP X pins D f s' := by
  cases f with
  | next => obtain ⟨σ', H', I, q⟩ := h; exact ⟨σ', H', I.untri, q⟩
  | brk => obtain ⟨σ', H', I, q⟩ := h; exact ⟨σ', H', I.untri, q⟩
  | cont => obtain ⟨σ', H', I, q⟩ := h; exact ⟨σ', H', I.untri, q⟩
  | ret u => obtain ⟨v, σ', H', I, r, q⟩ := h; exact ⟨v, σ', H', I.untri, r, q⟩
theorem pass_try (hx : X.ex = []) : Passes (CXM X.prog X.w) (X.tri pins W) (fun σ cls eo H' => ∃ e C, cls = .ref C ∧ eo = some e ∧ W σ e C H') := fun pins' σ H1 s1 u s2 I c => by
  obtain ⟨e, C, H', rfl, I', he, tr, e', C', h1, h2, q⟩ := I.cx c
  cases h1; cases h2
  exact ⟨e, C, σ, H', rfl, I'.untri, he, tr.imp fun T n => ⟨I.back hx n, fun p hp z => by
    have := (I.pin p (List.mem_append_left _ hp)).1
    rw [z, n] at this
    cases this⟩, q⟩
theorem Inv.gone {i : Nat} {n : Str} {v : Option Value} {m : Str → Option Value} {h' : Heap} {t' : Nat} (I : Inv X pins σ H s) (hN : X.N.Nodup) (hi : X.N[i]? = some n)
    (hl : ∀ (j : Nat) (x : Str) (v : V), X.N[j]? = some x → σ[j]? = some (some v) → Vis X.env.scope x → ∃ u, RelV v u ∧ Look X.env s.heap m x u) (hn : h'.Ns X.env.locals (fun x => if x = n then v else m x)) (hs : Heap.SameBut X.env.locals s.heap h') :
    Inv X pins (σ.set i none) H { s with heap := h', toks := t' } := by
  obtain ⟨oL, _, _, hoL, _⟩ := id I.loc.choose_spec.1
  have cne := I.cne
  refine ⟨I.ok, I.os, I.bare, ⟨fun b o e n hb hx => ?_, fun b o e n hb hx => ?_, I.base.free, fun b o e hx => ?_, I.base.tups, I.base.frzs, I.base.tbls⟩, ⟨_, hn, fun j y v' e1 e2 e3 => ?_⟩, fun y c e => ?_, I.free, I.freeC, fun p hp => ?_, fun b ob e => ?_, by simpa using I.len⟩
  · exact (hs.2 b (Nat.ne_of_lt (Nat.lt_of_lt_of_le (Heap.lt_size e) I.ok.above))).trans (I.base.keep b o e n hb hx)
  · obtain ⟨sl, e1⟩ := I.base.slot b o e n hb hx
    exact ⟨sl, (hs.2 b (Nat.ne_of_lt (Nat.lt_of_lt_of_le (Heap.lt_size e) I.ok.above))).trans e1⟩
  · obtain ⟨o', e1⟩ := I.base.there b o e hx
    exact ⟨o', (hs.2 b (Nat.ne_of_lt (Nat.lt_of_lt_of_le (Heap.lt_size e) I.ok.above))).trans e1⟩
  · have hj : j ≠ i := by
      rintro rfl
      rw [List.getElem?_set] at e2
      simp only [if_true] at e2
      split at e2 <;> cases e2
    rw [List.getElem?_set_ne (Ne.symm hj)] at e2
    obtain ⟨u', r', q⟩ := hl j y v' e1 e2 e3
    refine ⟨u', r', ?_⟩
    rcases q with ⟨k, e⟩ | ⟨k, c, e, z⟩
    · refine .inl ⟨k, ?_⟩
      have : y ≠ n := fun e => hj (nodup_ix hN e1 (e ▸ hi))
      simp [this, e]
    · exact .inr ⟨k, c, e, z.sameBut hs (cne y c e)⟩
  · obtain ⟨w', z⟩ := I.cell y c e
    exact ⟨w', z.sameBut hs (cne y c e)⟩
  · obtain ⟨e, n, ne, nf, d⟩ := I.pin p hp
    exact ⟨(hs.2 p.1 ne).trans e, n, ne, nf, d⟩
  · refine (I.hok b ob e).stay (fun c w' hc q => (hs.2 c ?_).trans q) (fun _ q => q) fun _ _ q => q
    rintro rfl
    rcases hc with hc | hc
    · rw [← hc, I.free] at e; cases e
    · rw [I.free] at hc; cases hc
end
noncomputable def Ends.but (D : Ends) (i : Nat) : Ends := { nx := fun σ H => D.nx (σ.set i none) H, rt := D.rt, bk := fun σ H => D.bk (σ.set i none) H, ct := fun σ H => D.ct (σ.set i none) H }
section
variable {X : Cx} {x n : Str} {np hpos pos : Pos} {body suite : List Stmt} {b₀ : Stmt} {i : Nat} {B : Addr} {tb : TW → TS} {th : Addr → TS}
theorem ps_try (hx : X.ex = []) (hs : X.stack = X.env :: X.outer) (hf : X.env.frame = some X.env.locals) (hN : X.N.Nodup) (hi : X.N[i]? = some n) (hl : X.env.scope.names.lookup n = some .local) (hg : Gl X x) (hm : X.mg x = some (.ref B))
    (hb : ∀ pins W, PSs (X.tri pins W) body (tb W)) (hh : ∀ e, PSs (X.hnd e) (b₀ :: suite) (th e)) (hdb : (x == ("__debug__" : Str)) = false := by decide) :
    PS X (.Try body [.ExceptHandler (some (.Name x np)) (some n) (b₀ :: suite) hpos] [] [] pos) (fun D σ H => ∃ W : TW, tb W D σ H ∧ ∀ σ' e C H', H' e = some (XO C e) → W σ' e C H' → PySem.W.exmOne X.K (.ref C) (.ref B) = some true ∧ th e (D.but i) (σ'.set i (some (.ref e))) H') := by
  intro pins s σ H D I ⟨W, hbW, hW⟩
  refine wpAny_Try_except (wpAny_mono (hb pins W [] s σ H D I.tri hbW) (fun f s1 h1 => ?_) (fun u s1 h1 => ?_))
  · have h1 := h1.untri
    cases f with
    | next =>
      obtain ⟨σ', H', I', q⟩ := h1
      exact pss_nil pins s1 σ' H' D I' q
    | brk => exact h1
    | cont => exact h1
    | ret u => exact h1
  · obtain ⟨e, C, σ', H', rfl, I', he, tr, w⟩ := h1
    obtain ⟨oe, vs, a0, T0, oT, ts, h1, h2, h3, h4, ⟨g1, g2⟩, nT, h5, h6, h7⟩ := tr
    obtain ⟨hK, hT⟩ := hW σ' e C H' he w
    have hfr : X.A.frames = some (X.env :: X.outer) := by rw [← hs]; exact I.ok.frames
    have hl' : s1.heap.FunFrames X.base (X.env :: X.outer) := by rw [← hs]; exact I'.stack
    obtain ⟨ox, vx, hox, hcx, hdx⟩ := xo_of I'.hok he
    rw [h1] at hox; cases hox
    have hne : T0 ≠ e := fun z => by rw [z, he] at nT; cases nT
    have F := fly_of hl' h1 h2 h3 h4 hne h5 h6 h7
    rw [hcx] at F
    have mv : ∀ {h' : Heap} {t' : Nat}, Heap.FlyingW (bas s1.heap (X.env :: X.outer) e T0) (X.env :: X.outer) e (.ref C) a0 h' → s1.heap.UpToSlots h' → Inv X pins σ' H' { s1 with heap := h', toks := t' } := fun {h'} {t'} F up => by
      have m := L2.moved (fl := .none) hl' F.1 F.2.2.1 F.2.2.2 up
      rw [← hs] at m
      exact I'.moved he nT g1 g2 h5 h6 m
    refine wpAny_looks_onW hfr hf F fun h₄ H4 up4 => ?_
    refine wpAny_landsW H4 fun h₅ F5 up5 => ?_
    have I5 := mv (t' := s1.toks) F5 (up4.trans up5)
    have I5h := I5.hnd (e := e)
    refine wpAny_handleBy_cons (codeAny_handlers_test (ld_glob I5h hg hm ?_ hdb)) (by intro q; cases q)
    obtain ⟨o5, ho5, hc5⟩ := F5.there
    have LT : PySem.W.Looks (model X.prog X.w) h₅ (typeOf (.ref e)) (.ref C) := by
      rw [← hc5]
      exact (PySem.W.Looks.ld ho5).andThen .now
    refine PySem.W.exm_one I5.kIn LT hK _ _ _ _ (fun _ _ q => q) ?_
    refine codeAny_handlers_suite_as ?_
    refine lands_againW F5 fun h₆ F6 up6 => ?_
    have I6 := (mv (t' := s1.toks) F6 ((up4.trans up5).trans up6)).hnd (e := e)
    refine store_ok (X := X.hnd e) (i := i) I6 hN hi (.inl hl) (v := .ref e) rfl (fun s7 I7 => ?_) (.inr hl)
    refine wpAny_mono (hh e pins s7 _ H' (D.but i) I7 hT) (fun f s8 h8 => ?_) (fun _ _ z => False.elim z)
    have done : ∀ {σ8 : St} {H8 : Hp} {R : Unit → Shared → Prop} {E : Value → Shared → Prop}, Inv (X.hnd e) pins σ8 H8 s8 → (∀ s9, Inv X pins (σ8.set i none) H8 s9 → R () s9) → wpAny (model X.prog X.w) X.A (do bindName X.env n .none; unbindBehindTheSuite X.env n hpos) R E s8 := fun {σ8 H8 R E} J r => by
      have J := J.unhnd I.ok
      obtain ⟨m, hn, hloc⟩ := id J.loc
      exact wpAny_nameGoes_keeps hl hn (by rw [I.ok.kind]; rfl) fun h9 v hn9 hs9 => r _ (J.gone hN hi hloc hn9 hs9)
    cases f with
    | next => obtain ⟨σ8, H8, J, q⟩ := h8; exact done J fun s9 J9 => ⟨_, _, J9, q⟩
    | brk => obtain ⟨σ8, H8, J, q⟩ := h8; exact done J fun s9 J9 => ⟨_, _, J9, q⟩
    | cont => obtain ⟨σ8, H8, J, q⟩ := h8; exact done J fun s9 J9 => ⟨_, _, J9, q⟩
    | ret u => obtain ⟨v, σ8, H8, J, r, q⟩ := h8; exact done J fun s9 J9 => ⟨v, _, _, J9, r, q⟩
end
end L2
-- MOD Exc4
namespace L2
open PySem PySem.Spec PyProof.Rows PySem.W
section
variable {prog : Program} {w : World} {A : Around} {E : Value → Shared → Prop} {h : Heap} {g : Array GenState} {d : Drawn} {t : Nat} {os : OsState} {a : Addr} {o : Obj}
  {nm q : Str} {C N : Addr} {bs bm : List Value} {hdct : Bool} {sn : List Str} {sub : List Value} {ab : Bool} {col : Option Bool} {dd : Option Addr} {k0 k1 k2 k3 k5 : Option Value} {newId : String}
theorem check_ga {M : Model} {nameV : Value} {Q : Unit → Shared → Prop} (hC : h.get? C = some (excClassObj nm q C N bs bm hdct sn sub ab col dd k0 k1 k2 k3 k5 newId)) (hcB : (Value.ref C :: bm).contains (.type "BaseException") = true)
    (hx : h.get? a = some o) (hc : o.cls = .ref C) (hq : Q () ⟨h, g, d, t, os⟩) : wpAny M A (checkBuiltinCall "BaseException.__getattribute__" ⟨[.ref a, nameV], []⟩) Q E ⟨h, g, d, t, os⟩ := by
  have hk : builtinKind "BaseException.__getattribute__" = some .slot := by decide +kernel
  have hsplit : splitId "BaseException.__getattribute__" = some ("BaseException", "__getattribute__") := by decide +kernel
  have ha := PySem.F.args_bexc_ga (.ref a) nameV
  simp only [checkBuiltinCall, hk, hsplit]
  refine wpAny_bind ?_
  · unfold isInstance
    repeat (first | (with_reducible refine wpAny_loadPart_at hx ?_; rw [hc]) | (with_reducible refine wpAny_isSubtype_exc hC ?_; rw [hcB]) | wp_step)
    exact hq
end
section
variable {prog : Program} {w : World} {A : Around} {E : Value → Shared → Prop} {s : Shared} {K : Frag} {x C D : Addr} {ox : Obj}
open Builtin Builtin.ObjectAttr Builtin.Getset_descriptor in
theorem xc_get {R : Result → Shared → Prop} {tp : Value} (X : K.In s.heap) (L0 : Looks (model prog w) s.heap (typeOf (.ref x)) (.ref D)) (hm : mroIn K D (.type "object") = some true) (h : R (.ok (.ret (.ref D))) s) :
    codeAny (model prog w) A (.call (.builtin "getset_descriptor.__get__") ⟨[.builtin "object.__class__", .ref x, tp], []⟩) R s := by
  obtain ⟨hh, g, dr, t, os⟩ := s
  have L1 := looks_mroIn (M := model prog w) X hm; refine codeAny_call_builtin KF.slot_gs.plain KF.entry_gs (KF.slot_gs.check _ _ _ _ _ _ _ _ KF.type_class (KF.args_gs _ _ _) ?_)
  unfold Builtin.«getset_descriptor.__get__» descrGet; rw [dga_obj]; refine wpAny_bind (wpAny_pure ?_)
  unfold descrGetter descrCheckInstance descrNameAndClass isInstance; simp only [KF.owner_class]; repeat lk
  refine ⟨Code.quiet_builtin _ (by decide +kernel), codeAny_builtin KF.entry_class ?_⟩; unfold Builtin.«object.__class__» shownTypeOf
  repeat lk
  exact h
theorem xc_class {Q : Option Value → Shared → Prop} (X : K.In s.heap) (hx : s.heap.get? x = some ox) (hc : ox.cls = .ref D) (hga : findIn K (.ref D) "__getattribute__" = some (some (.builtin "BaseException.__getattribute__"))) (hgt : findIn K (.ref D) "__getattr__" = some none)
    (hcf : findIn K (.ref D) "__class__" = some (some (.builtin "object.__class__"))) (hm : mroIn K D (.type "object") = some true) (hexc : excIn K D [.type "ValueError", .type "Exception", .type "BaseException", .type "object"] "ValueError.__new__" = true)
    (h : Q (some (.ref D)) { s with toks := s.toks + 1 }) : wpAny (model prog w) A (getAttr? (.ref x) "__class__") Q E s := by
  obtain ⟨hh, g, d, t, os⟩ := s
  have L0 : Looks (model prog w) hh (typeOf (.ref x)) (.ref D) := by rw [← hc]; exact (Looks.ld hx).andThen .now
  have L1 := looks_findIn (M := model prog w) X hga
  have L2 := looks_findIn (M := model prog w) X hgt
  have hx2 : (Value.builtin "BaseException.__getattribute__" == Value.builtin "object.__getattribute__") = false := by decide +kernel
  have hx1 : (onTheHeap (Value.ref D) && Value.builtin "BaseException.__getattribute__" == Value.builtin "object.__getattribute__") = false := by rw [hx2]; rfl
  have f3 := PySem.F.attr_ValueError.ga.bind (.ref x)
  unfold getAttr? getAttrBy? getAttrBy
  refine wpAny_bind (wpAny_mkText (wpAny_bind (wpAny_attempt (wpAny_holding (wpAny_bind (L0.at (wpAny_bind (L1.at ?_))))))))
  simp only [hx1, hx2]
  rw [if_neg (by simp)]
  unfold getAttrByItsOwn
  repeat (any_goals (first | assumption | with_reducible refine L2.at ?_ | with_reducible refine L0.at ?_ | with_reducible refine L1.at ?_ | wp_step))
  obtain ⟨bm, N, nm, q, bs, hdct, sn, sub, ab, col, dd, k0, k1, k2, k3, k5, mN, hC, hN, hni, T⟩ := exc_obj X hexc
  refine codeAny_call_builtin PySem.F.attr_ValueError.ga.plain PySem.F.entry_bexc_ga (check_ga hC (by rw [List.contains_cons, T.hasType PySem.F.excBase_ValueError.hasBase]; rfl) hx hc ?_)
  have L3 := looks_findIn (M := model prog w) X hcf
  have f5 : typeOf (.builtin "object.__class__") = pure (.type "getset_descriptor") := by kernel_rfl
  have f6 := PySem.F.slot_gs_get.lookup
  have f7 := PySem.F.slot_gs_set.lookup
  repeat (any_goals (first | assumption | with_reducible refine L3.at ?_ | with_reducible refine L0.at ?_ | wp_step))
  refine xc_get X L0 hm ?_
  exact wpAny_pure (handed_on rfl (wpAny_pure h))
structure XCls (K : Frag) (C : Addr) : Prop where
  exc : excIn K C [.type "ValueError", .type "Exception", .type "BaseException", .type "object"] "ValueError.__new__" = true
  ga : findIn K (.ref C) "__getattribute__" = some (some (.builtin "BaseException.__getattribute__"))
  gt : findIn K (.ref C) "__getattr__" = some none
  cf : findIn K (.ref C) "__class__" = some (some (.builtin "object.__class__"))
  ob : mroIn K C (.type "object") = some true
theorem kitx_exc {e : Addr} (c : XCls K C) : KitX K (.ref e) (.ref C) (fun h => ∃ ox, h.get? e = some ox ∧ ox.cls = .ref C) where
  ty := fun _ _ _ ⟨_, hx, hc⟩ => by rw [← hc]; exact (Looks.ld hx).andThen .now
  it := fun _ _ X _ => by
    obtain ⟨bm, N, nm, q, bs, hdct, sn, sub, ab, col, dd, k0, k1, k2, k3, k5, mN, hC, _⟩ := exc_obj X c.exc
    intro A' Q' E' s' k q
    unfold isType loadHead
    exact wpAny_bind (wpAny_loadPart (k _ _ hC) (wpAny_pure q))
  ne := fun h tp dd its n sl X htp => by
    obtain ⟨bm, N, nm, q, bs, hdct, sn, sub, ab, col, dd, k0, k1, k2, k3, k5, mN, hC, _⟩ := exc_obj X c.exc
    refine Bool.eq_false_iff.mpr fun q => ?_
    have e : C = tp := Value.ref.inj (beq_iff_eq.mp q)
    subst e
    rw [hC] at htp
    exact nomatch congrArg Obj.data (Option.some.inj htp)
  ca := fun X ⟨_, hx, hc⟩ k => xc_class X hx hc c.ga c.gt c.cf c.ob c.exc k
end
section
variable {X : Cx}
theorem call_isinstX {K : Frag} (hK : X.K = K) : CallR X (.builtin "isinstance") (fun xs H Q => ∃ a C c cv b, xs = [.ref a, c] ∧ H a = some (XO C a) ∧ XCls K C ∧ absV cv = some c ∧ kitOne K (.ref C) cv = some b ∧ ((∀ t, cv ≠ .ref t) → ∃ T, cv = .type T) ∧ Q (.bl b) H) := by
  intro pins s σ H xs us Q I rv ⟨a, C, c, cv, b, ex, ha, hc, rc, hk, hT, q⟩
  subst ex hK
  obtain ⟨u1, u2, rfl, r1, r2⟩ := L2.v2 rv
  cases (show u1 = Value.ref a from r1)
  obtain ⟨o, vs, h1, h2, h3⟩ := xo_of I.hok ha
  have e2 : u2 = cv := by
    cases cv with
    | ref t => cases (Option.some.inj rc); exact r2
    | type T => cases (Option.some.inj rc); exact r2
    | _ => obtain ⟨T, z⟩ := hT (fun _ z => nomatch z); cases z
  subst e2
  exact kia_one (kitx_exc hc) I.kIn ⟨o, h1, h2⟩ hk (fun z => nomatch z) fun tk => ⟨.bl b, H, I.tok tk, rfl, q⟩
theorem call_isinstT {K : Frag} (hK : X.K = K) : CallR X (.builtin "isinstance") (fun xs H Q => ∃ (a C t : Addr) (cs : List Addr) (b : Bool), xs = [.ref a, .ref t] ∧ H a = some (XO C a) ∧ XCls K C ∧ H t = some (.tup (cs.map V.ref)) ∧ kitAny K (.ref C) (cs.map Value.ref) = some b ∧ Q (.bl b) H) := by
  intro pins s σ H xs us Q I rv ⟨a, C, t, cs, b, ex, ha, hc, ht, hk, q⟩
  subst ex hK
  obtain ⟨u1, u2, rfl, r1, r2⟩ := L2.v2 rv
  cases (show u1 = Value.ref a from r1)
  cases (show u2 = Value.ref t from r2)
  obtain ⟨o, vs, h1, h2, h3⟩ := xo_of I.hok ha
  obtain ⟨_, its, r, ob, e1, e2, n, e3⟩ := (show ObjOk X.prog X.w H s.heap t (.tup (cs.map V.ref)) from I.hok t _ ht)
  have key : ∀ (cs : List Addr) (its : List Value), Vals (cs.map V.ref) its → its = cs.map Value.ref := by
    intro cs
    induction cs with
    | nil => intro its r; cases r; rfl
    | cons c cs ih =>
      intro its r
      cases r with
      | cons r0 r' =>
        rw [ih _ r']
        cases r0
        rfl
  have ei := key cs its r
  subst ei
  obtain ⟨oc, od, oda, osl⟩ := ob
  cases e2
  cases e3
  exact kia_tup (kitx_exc hc) I.kIn ⟨o, h1, h2⟩ e1 hk (fun z => nomatch z) fun tk => ⟨.bl b, H, I.tok tk, rfl, q⟩
end
end L2
-- MOD ExW2
namespace L2
open PySem PySem.Spec PyProof.Rows
theorem Fun.okX {P : Program} {w : World} {K : PySem.W.Frag} {mg : Str → Option Value} {base : Heap} {CX : CXT} {x qual : Str} {st : Stmt} {f : Addr} {fd : FuncData} {N ps : List Str} {k : Nat} {sp : Sp} (F : Fun K x qual st f fd) (S : FnScope N ps (defScope st)) (len : ∀ vs H Q E, sp vs H Q E → vs.length = ps.length)
    (hbody : ∀ (cdv : Value) (A : Around) (outer : List Env) (s : Shared) (H : Hp) (vs : List V) (Q : VK) (E : XK), Room k (A.deeper (envOfC qual (defScope st) s.heap.objs.size f cdv)) → sp vs H Q E →
      ∃ t, PSs (cxOf CX P w K mg base N qual (defScope st) f cdv A outer s H E) (defBody st) t ∧ t { nx := fun _ H' => Q .non H', rt := Q } (start N vs) H) : FnOk P w K mg base CX (k + 1) f fd ps sp := by
  obtain ⟨oc, od, kV, doc, pm, an, cdv, ct, osl, rfl, lk, hcd⟩ := F.ex
  exact fn_of lk hcd S len fun A outer s H vs Q E hr hsp => hbody cdv A outer s H vs Q E hr hsp
theorem FnOk.or {P : Program} {w : World} {K : PySem.W.Frag} {mg : Str → Option Value} {base : Heap} {CX : CXT} {k : Nat} {f : Addr} {fd : FuncData} {ps : List Str} {sp sp' : Sp} (F : FnOk P w K mg base CX k f fd ps sp) (G : FnOk P w K mg base CX k f fd ps sp') : FnOk P w K mg base CX k f fd ps (fun vs H Q E => sp vs H Q E ∨ sp' vs H Q E) :=
  ⟨fun vs H Q E h => h.elim (F.len vs H Q E) (G.len vs H Q E), fun A outer s H args us vs Q E hr he hb hv h => h.elim (F.run A outer s H args us vs Q E hr he hb hv) (G.run A outer s H args us vs Q E hr he hb hv)⟩
theorem op_neI {X : Cx} (hu : X.A.units + 64 < cLine) : OpR X (compareOp .NotEq) (fun x y H Q => ∃ (a b : Addr) (ps : List Addr), x = .ref a ∧ y = .ref b ∧ H a = some (.lst (ps.map V.ref)) ∧ H b = some (.lst (ps.map V.ref)) ∧ Q (.bl false) H) := by
  intro pins s σ H x y u v Q I rx ry ⟨a, b, ps, ex, ey, ha, hb, q⟩
  subst ex ey
  cases (show u = Value.ref a from rx)
  cases (show v = Value.ref b from ry)
  obtain ⟨_, its, n, r, e⟩ := (show ObjOk X.prog X.w H s.heap a (.lst (ps.map V.ref)) from I.hok a _ ha)
  obtain ⟨_, its2, n2, r2, e2⟩ := (show ObjOk X.prog X.w H s.heap b (.lst (ps.map V.ref)) from I.hok b _ hb)
  have key : ∀ (cs : List Addr) (its : List Value), Vals (cs.map V.ref) its → its = cs.map Value.ref := by
    intro cs
    induction cs with
    | nil => intro its r; cases r; rfl
    | cons c cs ih =>
      intro its r
      cases r with
      | cons r0 r' =>
        rw [ih _ r']
        cases r0
        rfl
  cases key ps its r
  cases key ps its2 r2
  have z := PySem.SeqAt.RcNeAt.lists (A := X.A) (s := s) (l := a) (b := b) (items := (ps.map Value.ref).toArray) (items2 := (ps.map Value.ref).toArray) (e := fun _ => true) ⟨_, e, rfl, n, rfl⟩ ⟨_, e2, rfl, n2, rfl⟩ rfl (by omega) (fun j h1 h2 => .same _)
  refine z _ _ _ _ ?_
  rw [show (!(List.range (ps.map Value.ref).toArray.size).all fun _ => true) = false by simp]
  exact ⟨.bl false, H, I, rfl, q⟩
namespace W
noncomputable def ps_raise := by have h := @L2.ps_raise; rw [ePS, ePA] at h; exact @h
noncomputable def ps_try := by have h := @L2.ps_try; rw [ePS, ePSs] at h; exact @h
noncomputable def Fun.okX := by have h := @L2.Fun.okX; rw [ePSs] at h; exact @h
end W
end L2
-- MOD Exh
/-! A statement whose comprehension has names of its own that are the def's too: those are forgotten. -/
namespace L2
open PySem PySem.Spec PyProof.Rows
noncomputable def Cx.re (X : Cx) (N' : List Str) : Cx := { X with N := N' }
noncomputable def hide : List Nat → St → St
  | [], σ => σ
  | i :: is, σ => hide is (σ.set i none)
theorem hide_len : ∀ (is : List Nat) (σ : St), (hide is σ).length = σ.length
  | [], _ => rfl
  | i :: is, σ => by rw [hide, hide_len is, List.length_set]
theorem hide_get : ∀ (is : List Nat) (σ : St) (i : Nat) (v : V), (hide is σ)[i]? = some (some v) → i ∉ is ∧ σ[i]? = some (some v)
  | [], _, _, _, h => ⟨by simp, h⟩
  | j :: is, σ, i, v, h => by
    obtain ⟨h1, h2⟩ := hide_get is _ i v h
    have ne : j ≠ i := by
      rintro rfl
      rw [List.getElem?_set] at h2
      simp only [if_true] at h2
      split at h2 <;> cases h2
    rw [List.getElem?_set_ne ne] at h2
    exact ⟨by simp [h1, Ne.symm ne], h2⟩
noncomputable def Ends.hid (D : Ends) (is : List Nat) : Ends := { nx := fun σ H => D.nx (hide is σ) H, rt := D.rt, bk := fun σ H => D.bk (hide is σ) H, ct := fun σ H => D.ct (hide is σ) H }
noncomputable def sameN (N N' : List Str) (is : List Nat) : Prop := N'.length = N.length ∧ ∀ i, i < N.length → i ∉ is → N'[i]? = N[i]?
section
variable {X : Cx} {pins : List (Addr × Obj)} {σ : St} {H : Hp} {s : Shared} {N' : List Str} {is : List Nat} {st : Stmt} {t : TS}
theorem Inv.re (h : sameN X.N N' is) (I : Inv X pins σ H s) : Inv (X.re N') pins (hide is σ) H s :=
  ⟨⟨I.ok.mod, I.ok.kind, I.ok.glob, I.ok.blt, I.ok.above, I.ok.inj, I.ok.has, I.ok.cab, I.ok.hd, I.ok.frames, I.ok.stk, I.ok.exf, I.ok.bs, I.ok.bsz, I.ok.noex, I.ok.exfs, I.ok.funs, I.ok.frf⟩, I.os, I.bare, I.base, by
    obtain ⟨m, hn, hl⟩ := I.loc
    refine ⟨m, hn, fun i x v e1 e2 e3 => ?_⟩
    obtain ⟨n, e2⟩ := hide_get is σ i v e2
    have il : i < X.N.length := by rw [← h.1]; exact (List.getElem?_eq_some_iff.mp e1).1
    exact hl i x v ((h.2 i il n).symm.trans e1) e2 e3, I.cell, I.free, I.freeC, I.pin, I.hok, by rw [hide_len, I.len]; exact h.1.symm⟩
theorem Inv.unre (ok : X.Ok) (h : sameN X.N N' is) (I : Inv (X.re N') pins σ H s) : Inv X pins (hide is σ) H s :=
  ⟨ok, I.os, I.bare, I.base, by
    obtain ⟨m, hn, hl⟩ := I.loc
    refine ⟨m, hn, fun i x v e1 e2 e3 => ?_⟩
    obtain ⟨n, e2⟩ := hide_get is σ i v e2
    have il : i < X.N.length := (List.getElem?_eq_some_iff.mp e1).1
    exact hl i x v ((h.2 i il n).trans e1) e2 e3, I.cell, I.free, I.freeC, I.pin, I.hok, by rw [hide_len, I.len]; exact h.1⟩
theorem ps_re (N' : List Str) (is : List Nat) (h : sameN X.N N' is) (hs : PS (X.re N') st t) : PS X st (fun D σ H => t (D.hid is) (hide is σ) H) := by
  intro pins s σ H D I hw
  refine wpAny_mono (hs pins s (hide is σ) H (D.hid is) (I.re h) hw) (fun f s1 h1 => ?_) (fun _ _ e => e)
  cases f with
  | next => obtain ⟨σ', H', J, q⟩ := h1; exact ⟨_, _, J.unre I.ok h, q⟩
  | brk => obtain ⟨σ', H', J, q⟩ := h1; exact ⟨_, _, J.unre I.ok h, q⟩
  | cont => obtain ⟨σ', H', J, q⟩ := h1; exact ⟨_, _, J.unre I.ok h, q⟩
  | ret u => obtain ⟨v, σ', H', J, r, q⟩ := h1; exact ⟨v, _, _, J.unre I.ok h, r, q⟩
end
theorem FnOk.calm {P : Program} {w : World} {K : PySem.W.Frag} {mg : Str → Option Value} {base : Heap} {CX : CXT} {k : Nat} {f : Addr} {fd : FuncData} {ps : List Str} {sp : Sp} (hC : Calm CX) (F : FnOk P w K mg base CX k f fd ps sp) : FnOk P w K mg base CX0 k f fd ps (fun vs H Q E => sp vs H Q fun _ _ _ => False) :=
  ⟨fun vs H Q E h => F.len vs H Q _ h, fun A outer s H args us vs Q E hr he hb hv h => by
    have := F.run A outer s H args us vs Q (fun _ _ _ => False) hr he hb hv h
    refine codeAny_mono this fun r s' h' => ?_
    cases r with
    | ok c =>
      cases c with
      | ret u => exact h'
      | _ => exact h'
    | error e => exact hC _ _ _ _ _ h'⟩
namespace W
noncomputable def ps_re := by have h := @L2.ps_re; rw [ePS] at h; exact @h
end W
end L2
-- MOD K5A
namespace My
open PySem L2
noncomputable def top (i : Nat) : Stmt := PySem.Challenge.pw_cometorest_k05_what_makes_no_kinds.main.body.getD i (.Pass ⟨0, 0, 0, 0⟩)
noncomputable abbrev sIsName : Stmt := top 11
noncomputable abbrev sUnlike : Stmt := top 12
noncomputable abbrev sPair : Stmt := top 13
noncomputable abbrev sFields : Stmt := top 14
noncomputable abbrev sCount : Stmt := top 15
noncomputable abbrev sInit : Stmt := inClass (top 16) 0
noncomputable abbrev sAreKinds : Stmt := top 17
noncomputable abbrev sPlaced : Stmt := top 18
noncomputable abbrev sInitKs : Stmt := inClass (top 19) 0
noncomputable abbrev sOrder : Stmt := inClass (top 19) 1
noncomputable abbrev sOf : Stmt := inClass (top 19) 2
noncomputable abbrev sMixed : Stmt := top 22
noncomputable abbrev sDigits : Stmt := top 23
noncomputable abbrev sNext : Stmt := top 24
noncomputable abbrev sSign : Stmt := top 25
noncomputable abbrev sNames : Stmt := top 26
noncomputable abbrev sLFields : Stmt := top 27
noncomputable abbrev sSpecs : Stmt := top 28
noncomputable abbrev sTurned : Stmt := top 29
noncomputable abbrev sWord : Stmt := top 31
noncomputable abbrev sRing : Stmt := top 32
noncomputable abbrev sBad : Stmt := top 33
noncomputable abbrev sLaw : Stmt := top 34
noncomputable def letters : Str := "abcdefghijklmnopqrstuvwxyz"
structure Tops (K : PySem.W.Frag) (mg : Str → Option Value) : Prop where
  isinst : mg "isinstance" = none
  len : mg "len" = none
  all : mg "all" = none
  set : mg "set" = none
  range : mg "range" = none
  str : mg "str" = none
  list : mg "list" = none
  tuple : mg "tuple" = none
  zip : mg "zip" = none
  dict : mg "dict" = none
  min : mg "min" = none
  sorted : mg "sorted" = none
  enum : mg "enumerate" = none
  int : mg "int" = none
  lets : ∃ t, mg "LETTERS" = some (.str letters t)
  most : ∃ t, mg "MOST_LETTERS" = some (.int 8 t)
  mostS : ∃ t, mg "MOST_STATES" = some (.int 8 t)
noncomputable def charB (c : Nat) : Bool := decide (c ∈ letters.cps.toList)
noncomputable def nameB (x : Str) : Bool := decide (1 ≤ x.length) && decide (x.length ≤ 8) && x.cps.toList.all charB
noncomputable def spIsName (K : PySem.W.Frag) : Sp := fun vs H Q _ => (∃ x, vs = [.str x] ∧ x.length ≤ 1000 ∧ ∀ H', Same H H' → Q (.bl (nameB x)) H') ∨
  ∃ v t, vs = [v] ∧ TyOf K H v t ∧ PySem.W.kitOne K t (.type "str") = some false ∧ Q (.bl false) H
section
variable {P : Program} {w : World} {K : PySem.W.Frag} {mg : Str → Option Value} {base : Heap} {CX : CXT}
theorem scIN : FnScope ["thing"] ["thing"] (defScope sIsName) := ⟨rfl, rfl, rfl, by decide +kernel, rfl, by decide +kernel, by decide +kernel⟩
theorem ok_isName {f : Addr} {fd : FuncData} (F : Fun K "is_name" "is_name" sIsName f fd) (T : Tops K mg) : FnOk P w K mg base CX 1 f fd ["thing"] (spIsName K) := by
  refine F.okC scIN (fun vs H Q E h => ?_) (fun cdv A outer s H vs Q E hr h => ?_)
  · rcases h with ⟨x, rfl, _⟩ | ⟨v, t, rfl, _⟩ <;> rfl
  · obtain ⟨tl, hlets⟩ := T.lets
    obtain ⟨tm, hmost⟩ := T.most
    refine ⟨_, pss_cons (ps_if (pt_not (pt_val (pe_callB call_isinst rfl T.isinst PyProof.Rows.boot_isinstance (pa_cons (pv 0) (pa_cons (pe_bltn (v := .ty "str") rfl T.str PyProof.Rows.boot_str rfl) pa_nil))))) (pss_one (ps_ret pe_bl)) pss_nil)
      (pss_one (ps_ret (pe_and (pe_chain op_le op_le pe_int (pe_callB call_len_str rfl T.len PySem.boot_len (pa_cons (pv 0) pa_nil)) (pe_glob (v := .int 8) rfl hmost ⟨_, rfl⟩))
        (pe_one (pe_callB (call_all rfl) rfl T.all PyProof.Rows.boot_all (pa_cons (pe_comp (T := ["sign"]) rfl ScOk.auto (pi_str (pv 0)) (fun _ _ _ _ => pg_name (i := 1) (by decide +kernel : (["thing", "sign"] : List Str).Nodup) rfl (Or.inl rfl)) (fun _ _ _ _ => pf_nil)
          (fun _ _ _ _ => pe_cmpR op_in_str (pv 1) (pe_glob (v := .str letters) rfl hlets ⟨_, rfl⟩) rfl)) pa_nil)))))), ?_⟩
    rcases h with ⟨x, rfl, hx, k⟩ | ⟨v, t, rfl, ty, hk, k⟩
    · refine ⟨_, rfl, _, _, _, _, _, rfl, .str x, rfl, rfl, _, rfl, iteF ?_⟩
      have hz : x.length ≤ sizeLine := Nat.le_of_lt (small1000 hx)
      refine ⟨_, rfl, x, rfl, hz, _, _, rfl, rfl, _, rfl, ?_⟩
      refine ite2 (fun h1 => ?_) (fun h1 => ?_)
      · refine ⟨_, _, rfl, rfl, _, rfl, ?_⟩
        refine ite2 (fun h2 => ?_) (fun h2 => ?_)
        · refine ⟨_, rfl, x, rfl, comp_chars (fun _ => true) (fun c => .bl (charB c)) hz (fun c Ry Rn q _ => ?_) (fun d hd => ?_)⟩
          · refine iteT (B := Rn H) ⟨_, rfl, _, _, rfl, rfl, ?_⟩
            rw [PySem.StrLaws.found_one]
            exact q rfl
          · refine ⟨d, x.cps.toList.map charB, rfl, SqL.of ?_, ?_⟩
            · rw [upd_same, List.filter_eq_self.mpr (fun _ _ => rfl), List.map_map]
              rfl
            · have e : nameB x = (x.cps.toList.map charB).all id := by
                have a1 : 1 ≤ x.length := by have := of_decide_eq_true h1; omega
                have a2 : x.length ≤ 8 := by have := of_decide_eq_true h2; omega
                unfold nameB
                rw [decide_eq_true a1, decide_eq_true a2, List.all_map]
                rfl
              rw [← e]
              exact k _ (Same.new hd)
        · have a2 : ¬ x.length ≤ 8 := fun z => h2 (decide_eq_true (by omega))
          have e : nameB x = false := by unfold nameB; rw [decide_eq_false a2]; simp
          rw [← e]
          exact k _ (Same.refl _)
      · have a1 : ¬ 1 ≤ x.length := fun z => h1 (decide_eq_true (by omega))
        have e : nameB x = false := by unfold nameB; rw [decide_eq_false a1]; simp
        refine ⟨false, rfl, iteF ?_⟩
        rw [← e]
        exact k _ (Same.refl _)
    · exact ⟨_, rfl, _, _, _, _, _, rfl, ty, rfl, hk, _, rfl, iteT k⟩
end
noncomputable def spMixed : Sp := fun vs H Q _ => ∃ c k : Int, vs = [.int c, .int k] ∧ 0 ≤ k ∧ k ≤ 1000000 ∧ ∀ n : Int, 0 ≤ n → n < 2147483629 → Q (.int n) H
noncomputable def Src (H : Hp) (p : Addr) (k : Int) : Prop := ∃ a c j : Int, H p = some (.lst [.int a, .int c, .int j]) ∧ 0 ≤ j ∧ j ≤ k
noncomputable def spDigits : Sp := fun vs H Q _ => ∃ c : Int, vs = [.int c] ∧ ∀ p H', H p = none → Src H' p 0 → Same H H' → (∀ b, b ≠ p → H' b = H b) → Q (.ref p) H'
noncomputable def spNext : Sp := fun vs H Q _ => ∃ (p : Addr) (m k : Int), vs = [.ref p, .int m] ∧ Src H p k ∧ k ≤ 999998 ∧ 0 < m ∧ m < 2 ^ 64 ∧
  ∀ (r : Int) (H' : Hp), 0 ≤ r → r < m → Src H' p (k + 1) → (∀ b, b ≠ p → H' b = H b) → Q (.int r) H'
section
variable {P : Program} {w : World} {K : PySem.W.Frag} {mg : Str → Option Value} {base : Heap} {CX : CXT}
theorem scMx : FnScope ["_law_cell", "_law_k", "_law_number"] ["_law_cell", "_law_k"] (defScope sMixed) := ⟨rfl, rfl, rfl, by decide +kernel, rfl, by decide +kernel, by decide +kernel⟩
theorem ok_mixed {f : Addr} {fd : FuncData} (F : Fun K "_law_mixed" "_law_mixed" sMixed f fd) : FnOk P w K mg base CX 1 f fd ["_law_cell", "_law_k"] spMixed := by
  refine F.okC scMx (fun vs H Q E h => ?_) (fun cdv A outer s H vs Q E hr h => ?_)
  · obtain ⟨c, k, rfl, _⟩ := h
    rfl
  · obtain ⟨c, k, rfl, h0, h1, q⟩ := h
    refine ⟨_, pss_cons (ps_set (i := 2) scMx.nd rfl (Or.inl rfl) (pe_op op_mod (pe_op op_mul (pe_op op_add (pe_op op_add (pe_op op_mod (pv 0) pe_int) (pe_op op_mul pe_int (pv 1))) pe_int) pe_int) pe_int))
      (pss_cons (ps_set (i := 2) scMx.nd rfl (Or.inl rfl) (pe_op op_mod (pe_op op_mul (pv 2) (pe_op op_add (pe_op op_fdiv (pv 2) pe_int) pe_int)) pe_int))
      (pss_cons (ps_set (i := 2) scMx.nd rfl (Or.inl rfl) (pe_op op_mod (pe_op op_mul (pv 2) (pe_op op_add (pe_op op_add (pe_op op_fdiv (pv 2) pe_int) pe_int) (pv 1))) pe_int))
      (pss_one (ps_ret (pe_op op_mod (pe_op op_mul (pv 2) (pe_op op_add (pe_op op_fdiv (pv 2) pe_int) pe_int)) pe_int))))), ?_⟩
    have M : (0 : Int) < 2147483629 := by decide
    have lo : ∀ z : Int, 0 ≤ z % 2147483629 := fun z => Int.emod_nonneg _ (by decide)
    have hi : ∀ z : Int, z % 2147483629 < 2147483629 := fun z => Int.emod_lt_of_pos _ M
    have cm : ∀ z y : Int, CMul (z % 2147483629) y := fun z y => by have := lo z; have := hi z; exact .inl ⟨by omega, by omega⟩
    refine ⟨_, rfl, _, _, rfl, rfl, M, _, rfl, _, _, rfl, rfl, .inl ⟨by decide, by decide⟩, _, _, rfl, rfl, _, _, rfl, rfl, _, _, rfl, rfl, .inr ⟨by decide, by decide⟩, _, _, rfl, rfl, M, ?_⟩
    refine ⟨_, rfl, _, rfl, _, _, rfl, rfl, ⟨by decide, by decide⟩, _, _, rfl, rfl, _, _, rfl, rfl, cm _ _, _, _, rfl, rfl, M, ?_⟩
    refine ⟨_, rfl, _, rfl, _, _, rfl, rfl, ⟨by decide, by decide⟩, _, _, rfl, rfl, _, rfl, _, _, rfl, rfl, _, _, rfl, rfl, cm _ _, _, _, rfl, rfl, M, ?_⟩
    refine ⟨_, rfl, _, rfl, _, _, rfl, rfl, ⟨by decide, by decide⟩, _, _, rfl, rfl, _, _, rfl, rfl, cm _ _, _, _, rfl, rfl, M, ?_⟩
    exact q _ (lo _) (hi _)
theorem scDg : FnScope ["_law_cell"] ["_law_cell"] (defScope sDigits) := ⟨rfl, rfl, rfl, by decide +kernel, rfl, by decide +kernel, by decide +kernel⟩
theorem ok_digits {f : Addr} {fd : FuncData} (F : Fun K "_law_digits" "_law_digits" sDigits f fd) : FnOk P w K mg base CX 1 f fd ["_law_cell"] spDigits := by
  refine F.okC scDg (fun vs H Q E h => ?_) (fun cdv A outer s H vs Q E hr h => ?_)
  · obtain ⟨c, rfl, _⟩ := h
    rfl
  · obtain ⟨c, rfl, q⟩ := h
    refine ⟨_, pss_one (ps_ret (pe_lst (pa_cons (pe_op op_mul (pe_op op_fdiv (pv 0) pe_int) (pe_op op_sub pe_int (pe_op op_mod (pv 0) pe_int))) (pa_cons (pv 0) (pa_cons pe_int pa_nil))))), ?_⟩
    have a1 : 0 ≤ c % 2 := Int.emod_nonneg _ (by decide)
    have a2 : c % 2 < 2 := Int.emod_lt_of_pos _ (by decide)
    refine ⟨_, rfl, _, _, rfl, rfl, ⟨by decide, by decide⟩, _, rfl, _, _, rfl, rfl, (by show (0 : Int) < 2; decide), _, _, rfl, rfl, _, _, rfl, rfl, .inr ⟨by omega, by omega⟩, _, rfl, (by show 3 ≤ sizeLine; decide), fun p hp => ?_⟩
    exact q p _ hp ⟨_, _, 0, upd_same, by decide, by decide⟩ (Same.new hp) fun b hb => upd_ne hb
theorem scNx : FnScope ["_law_source", "_law_many", "_law_got"] ["_law_source", "_law_many"] (defScope sNext) := ⟨rfl, rfl, rfl, by decide +kernel, rfl, by decide +kernel, by decide +kernel⟩
theorem ok_next {f fm : Addr} {fd fdm : FuncData} (hC : Calm CX) (F : Fun K "_law_next" "_law_next" sNext f fd) (DM : Def K mg "_law_mixed" sMixed ["_law_cell", "_law_k"] fm fdm) : FnOk P w K mg base CX 2 f fd ["_law_source", "_law_many"] spNext := by
  have GM : FnOk P w K mg base CX 1 fm fdm ["_law_cell", "_law_k"] spMixed := ok_mixed DM.fn
  refine F.okC scNx (fun vs H Q E h => ?_) (fun cdv A outer s H vs Q E hr h => ?_)
  · obtain ⟨p, m, k, rfl, _⟩ := h
    rfl
  · obtain ⟨p, m, k, rfl, ⟨a, c, j, hp, j0, j1⟩, hk, m0, m1, q⟩ := h
    refine ⟨_, pss_cons (ps_if (pt_cmpR op_gt (pe_ix ix_list (pv 0) pe_int (fun _ _ => rfl)) pe_int (nomark _))
        (pss_cons (ps_set (i := 2) scNx.nd rfl (Or.inl rfl) (pe_op op_mod (pe_ix ix_list (pv 0) pe_int (fun _ _ => rfl)) (pv 1)))
        (pss_cons (ps_asg (pe_op op_fdivB (pe_ix ix_list (pv 0) pe_int (fun _ _ => rfl)) (pv 1)) (pg_sub (pv 0) pe_int set_list))
        (pss_one (ps_ret (pv 2))))) pss_nil)
      (pss_cons (ps_asg (pe_op op_add (pe_ix ix_list (pv 0) pe_int (fun _ _ => rfl)) pe_int) (pg_sub (pv 0) pe_int set_list))
      (pss_one (ps_ret (pe_op op_mod (pe_call GM hr rfl DM.at_ DM.fn.kp DM.bind .nil (passC hC) (pa_cons (pe_ix ix_list (pv 0) pe_int (fun _ _ => rfl)) (pa_cons (pe_ix ix_list (pv 0) pe_int (fun _ _ => rfl)) pa_nil))) (pv 1))))), ?_⟩
    have S0 : SqL K H p [.int a, .int c, .int j] := SqL.of hp
    refine ⟨_, rfl, p, _, _, _, rfl, rfl, S0, rfl, _, _, rfl, rfl, _, rfl, ?_⟩
    refine ite2 (fun h0 => ?_) (fun h0 => ?_)
    · refine ⟨_, rfl, p, _, _, _, rfl, rfl, S0, rfl, _, rfl, _, _, rfl, rfl, m0, ?_⟩
      refine ⟨_, rfl, p, _, _, _, rfl, rfl, S0, rfl, _, rfl, _, _, rfl, rfl, ⟨m0, m1⟩, ?_⟩
      refine ⟨_, rfl, p, _, _, 0, rfl, rfl, hp, rfl, ?_⟩
      refine ⟨_, rfl, q _ _ (Int.emod_nonneg _ (by omega)) (Int.emod_lt_of_pos _ m0) ⟨_, _, j, upd_same, j0, by omega⟩ fun b hb => upd_ne hb⟩
    · refine ⟨_, rfl, p, _, _, _, rfl, rfl, S0, rfl, _, _, rfl, rfl, ?_⟩
      refine ⟨_, rfl, p, _, _, 2, rfl, rfl, hp, rfl, ?_⟩
      have S1 : SqL K (upd H p (.lst [.int a, .int c, .int (j + 1)])) p [.int a, .int c, .int (j + 1)] := SqL.of upd_same
      refine ⟨_, rfl, p, _, _, _, rfl, rfl, S1, rfl, _, rfl, p, _, _, _, rfl, rfl, S1, rfl, c, j + 1, rfl, by omega, by omega, fun n n0 n1 => ?_⟩
      refine ⟨_, rfl, _, _, rfl, rfl, m0, ?_⟩
      exact q _ _ (Int.emod_nonneg _ (by omega)) (Int.emod_lt_of_pos _ m0) ⟨_, _, j + 1, upd_same, by omega, by omega⟩ fun b hb => upd_ne hb
end
theorem atI_ex {α : Type} (xs : List α) {i : Int} (h0 : 0 ≤ i) (h1 : i < xs.length) : ∃ c, atI xs i = some c ∧ c ∈ xs := by
  have lt : i.toNat < xs.length := by omega
  refine ⟨xs[i.toNat], ?_, List.getElem_mem _⟩
  unfold atI ixN
  rw [if_pos h0, if_pos h1]
  simp [lt]
theorem Src.mono {H : Hp} {p : Addr} {k l : Int} (h : Src H p k) (hl : k ≤ l) : Src H p l := by
  obtain ⟨a, c, j, e, j0, j1⟩ := h
  exact ⟨a, c, j, e, j0, by omega⟩
noncomputable def nameD : PyData → Bool
  | .str x => nameB x
  | _ => false
noncomputable def strsOf : List PyData → List Str
  | .str x :: r => x :: strsOf r
  | _ :: r => strsOf r
  | [] => []
noncomputable def unlikeB (ds : List PyData) : Bool := ds.all nameD && decide (strsOf ds).Nodup
noncomputable def pairB : PyData → Bool
  | .tuple [_, .list vs] => decide (0 < vs.length) && unlikeB vs
  | _ => false
noncomputable def firstD : PyData → PyData
  | .tuple (d :: _) => d
  | _ => .none
noncomputable def fieldsB : PyData → Bool
  | .list ds => ds.all pairB && unlikeB (ds.map firstD)
  | _ => false
noncomputable def spNameD : Sp := fun vs H Q _ => ∃ v d, vs = [v] ∧ Has Any H v d ∧ ∀ H', Same H H' → Q (.bl (nameD d)) H'
noncomputable def spUnlike : Sp := fun vs H Q _ => ∃ v ds, vs = [v] ∧ Has Any H v (.list ds) ∧ ∀ H', Same H H' → Q (.bl (unlikeB ds)) H'
noncomputable def spPair : Sp := fun vs H Q _ => ∃ v d, vs = [v] ∧ Has Any H v d ∧ ∀ H', Same H H' → Q (.bl (pairB d)) H'
noncomputable def spFields : Sp := fun vs H Q _ => ∃ v d, vs = [v] ∧ Has Any H v d ∧ ∀ H', Same H H' → Q (.bl (fieldsB d)) H'
theorem strs_all {G : Addr → Prop} {H : Hp} : ∀ {xs : List V} {ds : List PyData}, HasAll G H xs ds → ds.all nameD = true → xs = (strsOf ds).map V.str ∧ (strsOf ds).length = ds.length
  | _, _, .nil, _ => ⟨rfl, rfl⟩
  | _, _, .cons h t, e => by
    rw [List.all_cons, Bool.and_eq_true] at e
    obtain ⟨e1, e2⟩ := e
    obtain ⟨q1, q2⟩ := strs_all t e2
    cases h with
    | str x _ _ => exact ⟨by rw [q1]; rfl, by rw [strsOf, List.length_cons, List.length_cons, q2]⟩
    | non => cases e1
    | bl b => cases e1
    | int i => cases e1
    | lst _ _ _ _ => cases e1
    | tup _ _ _ _ => cases e1
section
variable {P : Program} {w : World} {K : PySem.W.Frag} {mg : Str → Option Value} {base : Heap} {CX : CXT}
theorem name_imp {vs : List V} {H : Hp} {Q : VK} {E : XK} (h : spNameD vs H Q E) : spIsName K vs H Q E := by
  obtain ⟨v, d, rfl, hd, q⟩ := h
  cases hd with
  | str x hx ho => exact .inl ⟨x, rfl, hx, q⟩
  | non => exact .inr ⟨_, _, rfl, .non, rfl, q _ (Same.refl _)⟩
  | bl b => exact .inr ⟨_, _, rfl, .bl b, rfl, q _ (Same.refl _)⟩
  | int i => exact .inr ⟨_, _, rfl, .int i, rfl, q _ (Same.refl _)⟩
  | lst _ e _ _ => exact .inr ⟨_, _, rfl, .lst e, rfl, q _ (Same.refl _)⟩
  | tup _ e _ _ => exact .inr ⟨_, _, rfl, .tup e, rfl, q _ (Same.refl _)⟩
theorem ok_nameD {f : Addr} {fd : FuncData} (F : Fun K "is_name" "is_name" sIsName f fd) (T : Tops K mg) : FnOk P w K mg base CX 1 f fd ["thing"] spNameD := (ok_isName F T).imp fun _ _ _ _ h => name_imp h
theorem scUl : FnScope ["things"] ["things"] (defScope sUnlike) := ⟨rfl, rfl, rfl, by decide +kernel, rfl, by decide +kernel, by decide +kernel⟩
theorem ok_unlike {f fn : Addr} {fd fdn : FuncData} (hC : Calm CX) (T : Tops K mg) (F : Fun K "are_unlike_names" "are_unlike_names" sUnlike f fd) (DN : Def K mg "is_name" sIsName ["thing"] fn fdn) : FnOk P w K mg base CX 2 f fd ["things"] spUnlike := by
  have GN : FnOk P w K mg base CX 1 fn fdn ["thing"] spNameD := ok_nameD DN.fn T
  refine F.okC scUl (fun vs H Q E h => ?_) (fun cdv A outer s H vs Q E hr h => ?_)
  · obtain ⟨v, ds, rfl, _⟩ := h
    rfl
  · obtain ⟨v, ds, rfl, hd, k⟩ := h
    obtain ⟨a, xs, rfl, _, ha, hz, hx⟩ := hd.list_inv
    have hzl : xs.length ≤ sizeLine := Nat.le_of_lt (small1000 hz)
    refine ⟨_, pss_one (ps_ret (pe_and (pe_callB (call_all rfl) rfl T.all PyProof.Rows.boot_all (pa_cons (pe_comp (T := ["thing"]) rfl ScOk.auto (pi_list (pv 0)) (fun _ _ _ _ => pg_name (i := 1) (by decide +kernel : (["things", "thing"] : List Str).Nodup) rfl (Or.inl rfl)) (fun _ _ _ _ => pf_nil)
        (fun _ _ _ _ => pe_call GN hr rfl DN.at_ DN.fn.kp DN.bind .nil (passC hC) (pa_cons (pv 1) pa_nil))) pa_nil))
      (pe_one (pe_cmpR op_eq (pe_callB call_len_set_strs rfl T.len PySem.boot_len (pa_cons (pe_callTy (call_set_strs rfl) rfl T.set PyProof.Rows.boot_set (pa_cons (pv 0) pa_nil)) pa_nil)) (pe_callB call_len_seq rfl T.len PySem.boot_len (pa_cons (pv 0) pa_nil)) (nomark _))))), ?_⟩
    refine ⟨_, rfl, a, rfl, ⟨xs, SqL.of ha⟩, comp_list (xs := xs) (fun i ys H' => Same H H' ∧ ys = (ds.take i).map fun d => V.bl (nameD d)) ⟨Same.refl _, rfl⟩ (fun i ys H' p => SqL.of (p.1 _ _ ha)) (fun i ys H' hi p => ?_) ?_ ?_⟩
    · rw [p.2, List.length_map]
      have := List.length_take_le i ds
      omega
    · rintro i x ys H' hi ⟨s1, rfl⟩ N hN
      obtain ⟨d, hd', hv⟩ := hx.get hi
      refine pick ?_
      refine ⟨_, rfl, _, d, rfl, hv.mono s1, fun H2 s2 => hN _ _ ⟨s1.trans s2, ?_⟩⟩
      rw [List.take_add_one, hd', List.map_append]
      rfl
    · rintro ys H' ⟨s1, rfl⟩ p hp
      have e : (ds.take xs.length).map (fun d => V.bl (nameD d)) = (ds.map nameD).map V.bl := by
        rw [hx.length, List.take_length, List.map_map]
        rfl
      have s2 : Same H (upd H' p (.lst ((ds.take xs.length).map fun d => V.bl (nameD d)))) := s1.trans (Same.new hp)
      refine ⟨p, ds.map nameD, rfl, SqL.of (by rw [upd_same, e]), _, rfl, ?_⟩
      have ea : (ds.map nameD).all id = ds.all nameD := by rw [List.all_map]; rfl
      rw [ea]
      cases eb : ds.all nameD with
      | false =>
        refine iteF ?_
        have e0 : unlikeB ds = false := by unfold unlikeB; rw [eb]; rfl
        rw [← e0]
        exact k _ s2
      | true =>
        refine iteT ?_
        obtain ⟨q1, q2⟩ := strs_all hx eb
        subst q1
        have ha2 := s2 _ _ ha
        have hz4 : (strsOf ds).length ≤ 4000 := by rw [List.length_map] at hz; omega
        refine ⟨_, rfl, a, strsOf ds, rfl, SqL.of ha2, hz4, fun d hd2 => ?_⟩
        refine ⟨d, strsOf ds, rfl, upd_same, hz4, ?_⟩
        refine ⟨_, rfl, a, _, rfl, .inl (SqL.of ((Same.new hd2) _ _ ha2)), rfl, ?_⟩
        have e1 : decide (V.int ((dl (strsOf ds)).length : Int) = V.int (((strsOf ds).map V.str).length : Int)) = unlikeB ds := by
          unfold unlikeB
          rw [eb, Bool.true_and, ← dl_len_iff, List.length_map]
          by_cases q : (dl (strsOf ds)).length = (strsOf ds).length
          · rw [decide_eq_true q, q]
            simp
          · rw [decide_eq_false q, decide_eq_false]
            intro z
            injection z with z
            omega
        rw [e1]
        exact k _ (s2.trans (Same.new hd2))
end
noncomputable def sizeD : PyData → Nat
  | .tuple [_, .list vs] => vs.length
  | _ => 0
noncomputable def countD (ds : List PyData) : Int := ds.foldl (fun m d => m * (sizeD d : Int)) 1
noncomputable def spCount : Sp := fun vs H Q _ => ∃ v ds, vs = [v] ∧ Has Any H v (.list ds) ∧ ds.all pairB = true ∧ Q (.int (countD ds)) H
theorem pair_inv {G : Addr → Prop} {H : Hp} {v : V} {d : PyData} (h : Has G H v d) (e : pairB d = true) :
    ∃ a x y n l vs ys, v = .ref a ∧ G a ∧ H a = some (.tup [x, y]) ∧ d = .tuple [n, .list vs] ∧ Has G H x n ∧ y = .ref l ∧ G l ∧ H l = some (.lst ys) ∧ ys.length ≤ 1000 ∧ HasAll G H ys vs ∧ 0 < vs.length ∧ unlikeB vs = true := by
  cases h with
  | non => cases e
  | bl b => cases e
  | int i => cases e
  | str x _ _ => cases e
  | lst _ _ _ _ => cases e
  | tup g s z q =>
    cases q with
    | nil => cases e
    | cons h1 q =>
      cases q with
      | nil => cases e
      | cons h2 q =>
        cases q with
        | cons _ _ => cases h2 <;> cases e
        | nil =>
          cases h2 with
          | non => cases e
          | bl b => cases e
          | int i => cases e
          | str x _ _ => cases e
          | tup _ _ _ _ => cases e
          | lst g2 s2 z2 q2 =>
            have e' : (decide _ && unlikeB _) = true := e
            rw [Bool.and_eq_true] at e'
            exact ⟨_, _, _, _, _, _, _, rfl, g, s, rfl, h1, rfl, g2, s2, z2, q2, of_decide_eq_true e'.1, e'.2⟩
section
variable {P : Program} {w : World} {K : PySem.W.Frag} {mg : Str → Option Value} {base : Heap} {CX : CXT}
theorem scPr : FnScope ["thing", "values"] ["thing"] (defScope sPair) := ⟨rfl, rfl, rfl, by decide +kernel, rfl, by decide +kernel, by decide +kernel⟩
theorem ok_pair {f fu fn : Addr} {fd fdu fdn : FuncData} (hC : Calm CX) (T : Tops K mg) (F : Fun K "is_pair_with_values" "is_pair_with_values" sPair f fd) (DN : Def K mg "is_name" sIsName ["thing"] fn fdn)
    (DU : Def K mg "are_unlike_names" sUnlike ["things"] fu fdu) : FnOk P w K mg base CX 3 f fd ["thing"] spPair := by
  have GU : FnOk P w K mg base CX 2 fu fdu ["things"] spUnlike := ok_unlike hC T DU.fn DN
  refine F.okC scPr (fun vs H Q E h => ?_) (fun cdv A outer s H vs Q E hr h => ?_)
  · obtain ⟨v, d, rfl, _⟩ := h
    rfl
  · obtain ⟨v, d, rfl, hd, k⟩ := h
    refine ⟨_, pss_cons (ps_if (PW.pt (pw_or (pt_not (pt_val (pe_callB call_isinst rfl T.isinst PyProof.Rows.boot_isinstance (pa_cons (pv 0) (pa_cons (pe_bltn (v := .ty "tuple") rfl T.tuple PyProof.Rows.boot_tuple rfl) pa_nil)))))
        (pw_or1 (pt_cmpR op_ne (pe_callB call_len_seq rfl T.len PySem.boot_len (pa_cons (pv 0) pa_nil)) pe_int (nomark _))))) (pss_one (ps_ret pe_bl)) pss_nil)
      (pss_cons (ps_set (i := 1) scPr.nd rfl (Or.inl rfl) (pe_ix ix_tup (pv 0) pe_int (fun _ _ => rfl)))
      (pss_one (ps_ret (pe_and (pe_callB call_isinst rfl T.isinst PyProof.Rows.boot_isinstance (pa_cons (pv 1) (pa_cons (pe_bltn (v := .ty "list") rfl T.list PyProof.Rows.boot_list rfl) pa_nil)))
        (pe_and (pe_cmpR op_gt (pe_callB call_len_seq rfl T.len PySem.boot_len (pa_cons (pv 1) pa_nil)) pe_int (nomark _))
          (pe_one (pe_call GU hr rfl DU.at_ DU.fn.kp DU.bind .nil (passC hC) (pa_cons (pv 1) pa_nil)))))))), ?_⟩
    have k0 : pairB d = false → Q (.bl false) H := fun e => by rw [← e]; exact k _ (Same.refl _)
    refine ⟨_, rfl, ?_⟩
    cases hd with
    | non => exact ⟨_, _, _, _, _, rfl, .non, rfl, rfl, _, rfl, iteT (iteT (k0 rfl))⟩
    | bl b => exact ⟨_, _, _, _, _, rfl, (.bl b), rfl, rfl, _, rfl, iteT (iteT (k0 rfl))⟩
    | int i => exact ⟨_, _, _, _, _, rfl, (.int i), rfl, rfl, _, rfl, iteT (iteT (k0 rfl))⟩
    | str x _ _ => exact ⟨_, _, _, _, _, rfl, (.str x), rfl, rfl, _, rfl, iteT (iteT (k0 rfl))⟩
    | lst _ e _ _ => exact ⟨_, _, _, _, _, rfl, (.lst e), rfl, rfl, _, rfl, iteT (iteT (k0 rfl))⟩
    | @tup a xs ds _ e z q =>
      refine ⟨_, _, _, _, _, rfl, .tup e, rfl, rfl, _, rfl, iteF ?_⟩
      refine ⟨_, rfl, a, xs, rfl, .inr (SqT.of e), rfl, _, rfl, ?_⟩
      have hl := q.length
      by_cases h2 : xs.length = 2
      · rw [decide_eq_true (show V.int (xs.length : Int) = V.int 2 by rw [h2]; rfl)]
        refine iteF ?_
        obtain ⟨d0, d1, rfl⟩ : ∃ d0 d1, ds = [d0, d1] := by
          match ds, hl.symm.trans h2 with
          | [d0, d1], _ => exact ⟨d0, d1, rfl⟩
        cases q with
        | @cons x0 _ _ _ q0 q =>
          cases q with
          | @cons x1 _ _ _ q1 q =>
            cases q
            refine ⟨_, rfl, a, _, _, x1, rfl, rfl, SqT.of e, rfl, ?_⟩
            refine ⟨_, rfl, ?_⟩
            cases q1 with
            | non => exact ⟨_, _, _, _, _, rfl, .non, rfl, rfl, _, rfl, iteF (k0 rfl)⟩
            | bl b => exact ⟨_, _, _, _, _, rfl, (.bl b), rfl, rfl, _, rfl, iteF (k0 rfl)⟩
            | int i => exact ⟨_, _, _, _, _, rfl, (.int i), rfl, rfl, _, rfl, iteF (k0 rfl)⟩
            | str x _ _ => exact ⟨_, _, _, _, _, rfl, (.str x), rfl, rfl, _, rfl, iteF (k0 rfl)⟩
            | tup _ e1 _ _ => exact ⟨_, _, _, _, _, rfl, (.tup e1), rfl, rfl, _, rfl, iteF (k0 rfl)⟩
            | @lst l ys vs g1 e1 z1 q1 =>
              refine ⟨_, _, _, _, _, rfl, .lst e1, rfl, rfl, _, rfl, iteT ?_⟩
              refine ⟨_, rfl, l, ys, rfl, .inl (SqL.of e1), _, _, rfl, rfl, _, rfl, ?_⟩
              refine ite2 (fun h0 => ?_) (fun h0 => ?_)
              · refine ⟨_, rfl, _, vs, rfl, .lst g1 e1 z1 q1, fun H' s' => ?_⟩
                have e0 : pairB (.tuple [d0, .list vs]) = unlikeB vs := by
                  show (decide (0 < vs.length) && unlikeB vs) = _
                  rw [decide_eq_true, Bool.true_and]
                  have := q1.length
                  have := of_decide_eq_true h0
                  omega
                rw [← e0]
                exact k _ s'
              · refine k0 ?_
                show (decide (0 < vs.length) && unlikeB vs) = _
                rw [decide_eq_false, Bool.false_and]
                have := q1.length
                intro z0
                exact h0 (decide_eq_true (by omega))
      · rw [decide_eq_false (show ¬ V.int (xs.length : Int) = V.int 2 by intro z0; injection z0 with z0; omega)]
        refine iteT (k0 ?_)
        match ds, hl with
        | [], _ => rfl
        | [_], _ => rfl
        | [_, _], hl => exact absurd hl h2
        | _ :: d1 :: _ :: _, _ => cases d1 <;> rfl
end
theorem all_get {ds : List PyData} {f : PyData → Bool} {i : Nat} {d : PyData} (h : ds.all f = true) (e : ds[i]? = some d) : f d = true := List.all_eq_true.mp h d (List.mem_of_getElem? e)
section
variable {P : Program} {w : World} {K : PySem.W.Frag} {mg : Str → Option Value} {base : Heap} {CX : CXT}
theorem scFd : FnScope ["things"] ["things"] (defScope sFields) := ⟨rfl, rfl, rfl, by decide +kernel, rfl, by decide +kernel, by decide +kernel⟩
theorem ok_fields {f fp fu fn : Addr} {fd fdp fdu fdn : FuncData} (hC : Calm CX) (T : Tops K mg) (F : Fun K "are_fields" "are_fields" sFields f fd) (DN : Def K mg "is_name" sIsName ["thing"] fn fdn)
    (DU : Def K mg "are_unlike_names" sUnlike ["things"] fu fdu) (DP : Def K mg "is_pair_with_values" sPair ["thing"] fp fdp) : FnOk P w K mg base CX 4 f fd ["things"] spFields := by
  have GU : FnOk P w K mg base CX 2 fu fdu ["things"] spUnlike := ok_unlike hC T DU.fn DN
  have GP : FnOk P w K mg base CX 3 fp fdp ["thing"] spPair := ok_pair hC T DP.fn DN DU
  refine F.okC scFd (fun vs H Q E h => ?_) (fun cdv A outer s H vs Q E hr h => ?_)
  · obtain ⟨v, d, rfl, _⟩ := h
    rfl
  · obtain ⟨v, d, rfl, hd, k⟩ := h
    have hr2 := hr.mono (show 2 ≤ 3 by decide)
    refine ⟨_, pss_cons (ps_if (PW.pt (pw_or (pt_not (pt_val (pe_callB call_isinst rfl T.isinst PyProof.Rows.boot_isinstance (pa_cons (pv 0) (pa_cons (pe_bltn (v := .ty "list") rfl T.list PyProof.Rows.boot_list rfl) pa_nil)))))
        (pw_or1 (pt_not (pt_val (pe_callB (call_all rfl) rfl T.all PyProof.Rows.boot_all (pa_cons (pe_comp (T := ["thing"]) rfl ScOk.auto (pi_list (pv 0)) (fun _ _ _ _ => pg_name (i := 1) (by decide +kernel : (["things", "thing"] : List Str).Nodup) rfl (Or.inl rfl)) (fun _ _ _ _ => pf_nil)
        (fun _ _ _ _ => pe_call GP hr rfl DP.at_ DP.fn.kp DP.bind .nil (passC hC) (pa_cons (pv 1) pa_nil))) pa_nil))))))) (pss_one (ps_ret pe_bl)) pss_nil)
      (pss_one (ps_ret (pe_call GU hr2 rfl DU.at_ DU.fn.kp DU.bind .nil (passC hC) (pa_cons (pe_comp (T := ["thing"]) rfl ScOk.auto (pi_list (pv 0)) (fun _ _ _ _ => pg_name (i := 1) (by decide +kernel : (["things", "thing"] : List Str).Nodup) rfl (Or.inl rfl)) (fun _ _ _ _ => pf_nil)
        (fun _ _ _ _ => pe_ix (r := rIxT K) ix_tup (pv 1) pe_int (fun _ _ => rfl))) pa_nil)))), ?_⟩
    have k0 : fieldsB d = false → ∀ H', Same H H' → Q (.bl false) H' := fun e H' s' => by rw [← e]; exact k _ s'
    refine ⟨_, rfl, ?_⟩
    cases hd with
    | non => exact ⟨_, _, _, _, _, rfl, .non, rfl, rfl, _, rfl, iteT (iteT (k0 rfl _ (Same.refl _)))⟩
    | bl b => exact ⟨_, _, _, _, _, rfl, (.bl b), rfl, rfl, _, rfl, iteT (iteT (k0 rfl _ (Same.refl _)))⟩
    | int i => exact ⟨_, _, _, _, _, rfl, (.int i), rfl, rfl, _, rfl, iteT (iteT (k0 rfl _ (Same.refl _)))⟩
    | str x _ _ => exact ⟨_, _, _, _, _, rfl, (.str x), rfl, rfl, _, rfl, iteT (iteT (k0 rfl _ (Same.refl _)))⟩
    | tup _ e _ _ => exact ⟨_, _, _, _, _, rfl, (.tup e), rfl, rfl, _, rfl, iteT (iteT (k0 rfl _ (Same.refl _)))⟩
    | @lst a xs ds _ ha hz hx =>
      refine ⟨_, _, _, _, _, rfl, .lst ha, rfl, rfl, _, rfl, iteF ?_⟩
      refine ⟨_, rfl, a, rfl, ⟨xs, SqL.of ha⟩, comp_list (xs := xs) (fun i ys H' => Same H H' ∧ ys = (ds.take i).map fun d => V.bl (pairB d)) ⟨Same.refl _, rfl⟩ (fun i ys H' p => SqL.of (p.1 _ _ ha)) (fun i ys H' hi p => ?_) ?_ ?_⟩
      · rw [p.2, List.length_map]
        have := List.length_take_le i ds
        have := small1000 hz
        omega
      · rintro i x ys H' hi ⟨s1, rfl⟩ N hN
        obtain ⟨d, hd', hv⟩ := hx.get hi
        refine pick ?_
        refine ⟨_, rfl, _, d, rfl, hv.mono s1, fun H2 s2 => hN _ _ ⟨s1.trans s2, ?_⟩⟩
        rw [List.take_add_one, hd', List.map_append]
        rfl
      · rintro ys H' ⟨s1, rfl⟩ p hp
        have e : (ds.take xs.length).map (fun d => V.bl (pairB d)) = (ds.map pairB).map V.bl := by
          rw [hx.length, List.take_length, List.map_map]
          rfl
        have s2 : Same H (upd H' p (.lst ((ds.take xs.length).map fun d => V.bl (pairB d)))) := s1.trans (Same.new hp)
        refine ⟨p, ds.map pairB, rfl, SqL.of (by rw [upd_same, e]), _, rfl, ?_⟩
        have ea : (ds.map pairB).all id = ds.all pairB := by rw [List.all_map]; rfl
        rw [ea]
        cases eb : ds.all pairB with
        | false =>
          refine iteT (k0 ?_ _ s2)
          show (ds.all pairB && _) = false
          rw [eb]
          rfl
        | true =>
          refine iteF ?_
          have ha2 := s2 _ _ ha
          generalize upd H' p (.lst ((ds.take xs.length).map fun d => V.bl (pairB d))) = H3 at s2 ha2 ⊢
          refine ⟨_, rfl, a, rfl, ⟨xs, SqL.of ha2⟩, comp_list (xs := xs) (fun i ys H' => H' = H3 ∧ HasAll Any H3 ys ((ds.take i).map firstD)) ⟨rfl, .nil⟩ (fun i ys H' p => by rw [p.1]; exact SqL.of ha2) (fun i ys H' hi p => ?_) ?_ ?_⟩
          · have := p.2.length
            rw [List.length_map] at this
            have := List.length_take_le i ds
            have := small1000 hz
            omega
          · rintro i x ys H' hi ⟨rfl, hy⟩ N hN
            obtain ⟨d, hd', hv⟩ := hx.get hi
            obtain ⟨b, x0, y0, n, l, vs, zs, rfl, _, hb, rfl, hn, _⟩ := pair_inv hv (all_get eb hd')
            refine pick ?_
            refine ⟨_, rfl, b, _, _, x0, rfl, rfl, SqT.of (s2 _ _ hb), rfl, hN _ _ ⟨rfl, ?_⟩⟩
            rw [List.take_add_one, hd', List.map_append]
            exact hy.snoc (hn.mono s2)
          · rintro ys H' ⟨rfl, hy⟩ q hq
            have s3 := s2.trans (Same.new (o := .lst ys) hq)
            have hl : ys.length ≤ 1000 := by
              have := hy.length
              rw [List.length_map] at this
              have := List.length_take_le xs.length ds
              omega
            refine ⟨_, ds.map firstD, rfl, .lst trivial upd_same hl ?_, fun H4 s4 => ?_⟩
            · rw [hx.length, List.take_length] at hy
              exact hy.mono (Same.new hq)
            · have e1 : fieldsB (.list ds) = unlikeB (ds.map firstD) := by
                show (ds.all pairB && unlikeB (ds.map firstD)) = _
                rw [eb]
                rfl
              rw [← e1]
              exact k _ (s3.trans s4)
theorem scCt : FnScope ["fields", "many", "field"] ["fields"] (defScope sCount) := ⟨rfl, rfl, rfl, by decide +kernel, rfl, by decide +kernel, by decide +kernel⟩
theorem ok_count {f : Addr} {fd : FuncData} (T : Tops K mg) (F : Fun K "count_states" "count_states" sCount f fd) : FnOk P w K mg base CX 1 f fd ["fields"] spCount := by
  refine F.okC scCt (fun vs H Q E h => ?_) (fun cdv A outer s H vs Q E hr h => ?_)
  · obtain ⟨v, ds, rfl, _⟩ := h
    rfl
  · obtain ⟨v, ds, rfl, hd, eb, k⟩ := h
    obtain ⟨a, xs, rfl, _, ha, hz, hx⟩ := hd.list_inv
    refine ⟨_, pss_cons (ps_set (i := 1) scCt.nd rfl (Or.inl rfl) pe_int)
      (pss_cons (ps_for PassesOwn.never rfl (pi_list (pv 0)) (pg_name (i := 2) scCt.nd rfl (Or.inl rfl))
        (pss_one (ps_set (i := 1) scCt.nd rfl (Or.inl rfl) (pe_op op_mul (pv 1) (pe_callB call_len_seq rfl T.len PySem.boot_len (pa_cons (pe_ix ix_tup (pv 2) pe_int (fun _ _ => rfl)) pa_nil))))))
      (pss_one (ps_ret (pv 1)))), ?_⟩
    refine ⟨_, rfl, a, rfl, ⟨xs, SqL.of ha⟩, for_list (K := K) (a := a) (xs := xs) (fun i σ H2 => ∃ u, σ = [some (.ref a), some (.int (countD (ds.take i))), u] ∧ H2 = H) ⟨none, rfl, rfl⟩ (fun i σ H2 _ ⟨_, _, e⟩ => by rw [e]; exact SqL.of ha) ?_ ?_⟩
    · rintro i x σ H2 hi ⟨u, rfl, rfl⟩
      obtain ⟨d, hd', hv⟩ := hx.get hi
      obtain ⟨b, x0, y0, n, l, vs, zs, rfl, _, hb, rfl, hn, rfl, _, hl, hzl, hvs, _⟩ := pair_inv hv (all_get eb hd')
      refine ⟨_, rfl, _, rfl, b, _, _, _, rfl, rfl, SqT.of hb, rfl, l, zs, rfl, .inl (SqL.of hl), _, _, rfl, rfl, .inr ⟨by omega, by omega⟩, ⟨some (.ref b), ?_, rfl⟩⟩
      have e : countD (ds.take (i + 1)) = countD (ds.take i) * (zs.length : Int) := by
        rw [List.take_add_one, hd']
        unfold countD
        rw [List.foldl_append]
        show _ * ((sizeD (.tuple [n, .list vs]) : Nat) : Int) = _
        rw [hvs.length]
        rfl
      rw [e]
      rfl
    · rintro σ H2 ⟨u, rfl, rfl⟩
      refine ⟨_, rfl, ?_⟩
      rw [hx.length, List.take_length]
      exact k
end
structure FunD (K : PySem.W.Frag) (x qual : Str) (st : Stmt) (dV : Value) (f : Addr) (fd : FuncData) : Prop where
  ex : ∃ (oc : Value) (od : Option Addr) (kV doc pm : Value) (an : Option Addr) (cdv ct : Value) (osl : Array (Option Value)),
    fd = PySem.W.fnOf x qual (defArgs st) (defBody st) (defScope st) dV kV doc pm an cdv ct ∧ K.lookup f = some ⟨oc, od, .func fd, osl⟩ ∧ PySem.W.codeIn K cdv qual = true
theorem FunD.okC {P : Program} {w : World} {K : PySem.W.Frag} {mg : Str → Option Value} {base : Heap} {CX : CXT} {x qual : Str} {st : Stmt} {dV : Value} {f : Addr} {fd : FuncData} {N ps : List Str} {k : Nat} {sp : Sp} (F : FunD K x qual st dV f fd) (S : FnScope N ps (defScope st)) (len : ∀ vs H Q E, sp vs H Q E → vs.length = ps.length)
    (hbody : ∀ (cdv : Value) (A : Around) (outer : List Env) (s : Shared) (H : Hp) (vs : List V) (Q : VK) (E : XK), Room k (A.deeper (PyProof.Rows.envOfC qual (defScope st) s.heap.objs.size f cdv)) → sp vs H Q E →
      ∃ t, PSs (cxOf CX P w K mg base N qual (defScope st) f cdv A outer s H E).nox (defBody st) t ∧ t { nx := fun _ H' => Q .non H', rt := Q } (start N vs) H) : FnOk P w K mg base CX (k + 1) f fd ps sp := by
  obtain ⟨oc, od, kV, doc, pm, an, cdv, ct, osl, rfl, lk, hcd⟩ := F.ex
  refine fn_of lk hcd S len fun A outer s H vs Q E hr hsp => ?_
  obtain ⟨t, h, q⟩ := hbody cdv A outer s H vs Q E hr hsp
  exact ⟨t, h.nox, q⟩
theorem fnf : ¬ (("name" : Str) = "fields") := by decide +kernel
theorem fno : ¬ (("name" : Str) = "owner") := by decide +kernel
theorem ffo : ¬ (("fields" : Str) = "owner") := by decide +kernel
noncomputable def kflds (n f o : V) : List (Str × V) := putF "owner" o (putF "fields" f (putF "name" n []))
theorem kf_name (n f o : V) : (kflds n f o).lookup ("name" : Str) = some n := by
  unfold kflds
  rw [lookup_putF, if_neg fno, lookup_putF, if_neg fnf, lookup_putF, if_pos rfl]
theorem kf_fields (n f o : V) : (kflds n f o).lookup ("fields" : Str) = some f := by
  unfold kflds
  rw [lookup_putF, if_neg ffo, lookup_putF, if_pos rfl]
theorem kf_owner (n f o : V) : (kflds n f o).lookup ("owner" : Str) = some o := by
  unfold kflds
  rw [lookup_putF, if_pos rfl]
structure KCls (K : PySem.W.Frag) (mg : Str → Option Value) (C fI : Addr) : Prop where
  cl : Cls K C
  nN : NoAttr K C "name"
  nF : NoAttr K C "fields"
  nO : NoAttr K C "owner"
  mgC : mg "Kind" = some (.ref C)
  mkd : Mk K C fI
theorem name_any {G G' : Addr → Prop} {H H' : Hp} {v : V} {d : PyData} (h : Has G H v d) (e : nameD d = true) : Has G' H' v d := by
  cases h with
  | str x a b => exact .str x a b
  | non => cases e
  | bl b => cases e
  | int i => cases e
  | lst _ _ _ _ => cases e
  | tup _ _ _ _ => cases e
theorem names_any {G G' : Addr → Prop} {H H' : Hp} : ∀ {xs : List V} {ds : List PyData}, HasAll G H xs ds → ds.all nameD = true → HasAll G' H' xs ds
  | _, _, .nil, _ => .nil
  | _, _, .cons h t, e => by
    rw [List.all_cons, Bool.and_eq_true] at e
    exact .cons (name_any h e.1) (names_any t e.2)
theorem unlike_all {ds : List PyData} (h : unlikeB ds = true) : ds.all nameD = true := by
  have z : (ds.all nameD && decide (strsOf ds).Nodup) = true := h
  rw [Bool.and_eq_true] at z
  exact z.1
noncomputable def ownerD (n : Str) : PyData → Bool
  | .none => true
  | .str o => nameB o && !decide (o = n)
  | _ => false
noncomputable def spInit (C : Addr) : Sp := fun vs H Q _ => ∃ (p dx : Addr) (vf vo : V) (n : Str) (ds : List PyData) (od : PyData), vs = [.ref p, .str n, vf, vo] ∧ H p = some (.ins C dx []) ∧ n.length ≤ 1000 ∧ PyData.strOk n = true ∧ nameB n = true ∧
  Has Any H vf (.list ds) ∧ fieldsB (.list ds) = true ∧ Has Any H vo od ∧ ownerD n od = true ∧ countD ds ≤ 8 ∧
  ∀ (H' : Hp) (l : Addr), H' p = some (.ins C dx (kflds (.str n) (.ref l) vo)) → Has (fun a => H a = none) H' (.ref l) (.list ds) → (∀ b o, H b = some o → b ≠ p → H' b = some o) → Q .non H'
section
variable {P : Program} {w : World} {K : PySem.W.Frag} {mg : Str → Option Value} {base : Heap} {CX : CXT}
theorem scKi : FnScope ["self", "name", "fields", "owner"] ["self", "name", "fields", "owner"] (defScope sInit) := ⟨rfl, rfl, rfl, by decide +kernel, rfl, by decide +kernel, by decide +kernel⟩
theorem k_both {R : Hp → Prop} {H1 : Hp} {B : Prop} (t : ∀ Hx, Same H1 Hx → R Hx) (h : (∀ Hx, Same H1 Hx → R Hx) → B) : B := h t
theorem ok_init {f C ff fc fp fu fn : Addr} {fd fdf fdc fdp fdu fdn : FuncData} {dV : Value} (hC : Calm CX) (T : Tops K mg) (F : FunD K "__init__" "Kind.__init__" sInit dV f fd) (KC : KCls K mg C f) (DN : Def K mg "is_name" sIsName ["thing"] fn fdn)
    (DU : Def K mg "are_unlike_names" sUnlike ["things"] fu fdu) (DP : Def K mg "is_pair_with_values" sPair ["thing"] fp fdp) (DF : Def K mg "are_fields" sFields ["things"] ff fdf) (DC : Def K mg "count_states" sCount ["fields"] fc fdc) :
    FnOk P w K mg base CX 5 f fd ["self", "name", "fields", "owner"] (spInit C) := by
  have GN : FnOk P w K mg base CX 1 fn fdn ["thing"] spNameD := ok_nameD DN.fn T
  have GF : FnOk P w K mg base CX 4 ff fdf ["things"] spFields := ok_fields hC T DF.fn DN DU DP
  have GC : FnOk P w K mg base CX 1 fc fdc ["fields"] spCount := ok_count T DC.fn
  refine F.okC scKi (fun vs H Q E h => ?_) (fun cdv A outer s H vs Q E hr h => ?_)
  · obtain ⟨p, dx, vf, vo, n, ds, od, rfl, _⟩ := h
    rfl
  · obtain ⟨p, dx, vf, vo, n, ds, od, rfl, hp, hn1, hn2, hn3, hf, hfb, ho, hob, hc8, k⟩ := h
    have hr1 := hr.mono (show 1 ≤ 4 by decide)
    obtain ⟨tm, hmost⟩ := T.mostS
    refine ⟨_, pss_cons (ps_if (pt_not (pt_val (pe_call GN hr1 rfl DN.at_ DN.fn.kp DN.bind .nil (passC hC) (pa_cons (pv 1) pa_nil)))) pss_never pss_nil)
      (pss_cons (ps_if (pt_not (pt_val (pe_call GF hr rfl DF.at_ DF.fn.kp DF.bind .nil (passC hC) (pa_cons (pv 2) pa_nil)))) pss_never pss_nil)
      (pss_cons (ps_if (PW.pt (pw_and (pt_cmp (pc_notN (pv 3))) (pw_and1 (PW.pt (pw_or (pt_not (pt_val (pe_call GN hr1 rfl DN.at_ DN.fn.kp DN.bind .nil (passC hC) (pa_cons (pv 3) pa_nil)))) (pw_or1 (pt_cmpR op_eq (pv 3) (pv 1) (nomark _)))))))) pss_never pss_nil)
      (pss_cons (ps_if (pt_cmpR op_gt (pe_call GC hr1 rfl DC.at_ DC.fn.kp DC.bind .nil (passC hC) (pa_cons (pv 2) pa_nil)) (pe_glob (v := .int 8) rfl hmost ⟨_, rfl⟩) (nomark _)) pss_never pss_nil)
      (pss_cons (ps_fld (pv 0) (pv 1) rfl)
      (pss_cons (ps_fld (pv 0) (pe_comp (T := ["field"]) rfl ScOk.auto (pi_list (pv 2)) (fun _ _ _ _ => pg_name (i := 4) (by decide +kernel : (["self", "name", "fields", "owner", "field"] : List Str).Nodup) rfl (Or.inl rfl)) (fun _ _ _ _ => pf_nil)
        (fun _ _ _ _ => pe_tup (pa_cons (pe_ix (r := rIxT K) ix_tup (pv 4) pe_int (fun _ _ => rfl)) (pa_cons (pe_callTy (r := fun xs H Q => ∃ p ys, xs = [.ref p] ∧ (SqL K H p ys ∨ SqT K H p ys) ∧ ∀ l, H l = none → Q (.ref l) (upd H l (.lst ys))) call_list_of rfl T.list PyProof.Rows.boot_list (pa_cons (pe_ix (r := rIxT K) ix_tup (pv 4) pe_int (fun _ _ => rfl)) pa_nil)) pa_nil)))) rfl)
      (pss_one (ps_fld (pv 0) (pv 3) rfl))))))), ?_⟩
    -- the tests
    refine ⟨_, rfl, _, .str n, rfl, .str n hn1 hn2, fun H1 s1 => ⟨_, rfl, ?_⟩⟩
    rw [show nameD (.str n) = true from hn3]
    refine iteF ⟨_, rfl, _, .list ds, rfl, hf.mono s1, fun H2 s2 => ⟨_, rfl, ?_⟩⟩
    rw [hfb]
    have s12 := s1.trans s2
    refine iteF ?_
    have fb : ds.all pairB = true ∧ unlikeB (ds.map firstD) = true := by
      have z : (ds.all pairB && unlikeB (ds.map firstD)) = true := hfb
      rw [Bool.and_eq_true] at z
      exact z
    -- owner
    have sh : vo = V.non ∨ ∃ o, vo = V.str o ∧ o.length ≤ 1000 ∧ PyData.strOk o = true ∧ nameB o = true ∧ ¬ o = n := by
      cases ho with
      | bl b => cases hob
      | int i => cases hob
      | lst _ _ _ _ => cases hob
      | tup _ _ _ _ => cases hob
      | non => exact .inl rfl
      | str o o1 o2 =>
        have z : (nameB o && !decide (o = n)) = true := hob
        rw [Bool.and_eq_true] at z
        exact .inr ⟨o, rfl, o1, o2, z.1, by simpa using z.2⟩
    refine' k_both (H1 := H) _ (fun k2 => _)
    rotate_left 2
    · rcases sh with e | ⟨o, e, o1, o2, e1, e2⟩
      · refine ⟨_, rfl, _, rfl, ?_⟩
        rw [decide_eq_true e]
        exact iteF (iteF (k2 H2 s12))
      · refine ⟨_, rfl, _, rfl, ?_⟩
        rw [decide_eq_false (show ¬ vo = V.non by rw [e]; intro z; cases z)]
        refine iteT ?_
        refine ⟨_, rfl, vo, .str o, rfl, (by rw [e]; exact .str o o1 o2), fun H3 s3 => ⟨_, rfl, ?_⟩⟩
        rw [show nameD (.str o) = true from e1]
        refine iteF ⟨_, rfl, _, rfl, (by rw [e]; rfl), _, rfl, ?_⟩
        rw [decide_eq_false (show ¬ vo = V.str n by rw [e]; intro z; injection z with z; exact e2 z)]
        exact iteF (k2 H3 (s12.trans s3))
    · intro H3 s3
      refine ⟨_, rfl, _, ds, rfl, hf.mono s3, fb.1, _, _, rfl, rfl, _, rfl, ?_⟩
      refine ite2 (fun h => absurd (of_decide_eq_true h) (by omega)) (fun _ => ?_)
      -- self.name = name
      refine ⟨_, rfl, _, rfl, p, C, dx, [], rfl, s3 _ _ hp, KC.cl, KC.nN, (by show 0 < 1000; decide), ?_⟩
      have fr : ∀ (H' : Hp) (o' : HO), (∃ fs, H' p = some (.ins C dx fs)) → ∀ (a : Addr) (o : HO), Any a → isSeq o → H' a = some o → Any a ∧ (upd H' p o') a = some o := by
        rintro H' o' ⟨fs, e⟩ a o _ hs q
        refine ⟨trivial, ?_⟩
        rw [upd_ne]
        · exact q
        · rintro rfl
          rw [e] at q
          cases q
          exact hs
      have hf4 : Has Any (upd H3 p (.ins C dx (putF "name" (.str n) []))) vf (.list ds) := (hf.mono s3).frameS (fr _ _ ⟨_, s3 _ _ hp⟩)
      obtain ⟨a, xs, rfl, _, ha, hz, hx⟩ := hf4.list_inv
      have hp4 : (upd H3 p (.ins C dx (putF "name" (.str n) []))) p = some (.ins C dx (putF "name" (.str n) [])) := upd_same
      have k4 : ∀ b o, H b = some o → b ≠ p → (upd H3 p (.ins C dx (putF "name" (.str n) []))) b = some o := fun b o e hb => by rw [upd_ne hb]; exact s3 _ _ e
      have n4 : ∀ b, (upd H3 p (.ins C dx (putF "name" (.str n) []))) b = none → H b = none := fun b e => by
        cases q : H b with
        | none => rfl
        | some o =>
          by_cases hb : b = p
          · subst hb
            rw [hp4] at e
            cases e
          · rw [k4 b o q hb] at e
            cases e
      generalize upd H3 p (.ins C dx (putF "name" (.str n) [])) = H4 at ha hx hp4 k4 n4 ⊢
      refine ⟨_, rfl, a, rfl, ⟨xs, SqL.of ha⟩, comp_list (xs := xs) (fun i ys H' => Same H4 H' ∧ HasAll (fun a => H a = none) H' ys (ds.take i)) ⟨Same.refl _, .nil⟩ (fun i ys H' q => SqL.of (q.1 _ _ ha)) (fun i ys H' hi q => ?_) ?_ ?_⟩
      · have := q.2.length
        have := List.length_take_le i ds
        have := small1000 hz
        have := hx.length
        omega
      · rintro i x ys H' hi ⟨s5, hy⟩ N hN
        obtain ⟨d, hd', hv⟩ := hx.get hi
        obtain ⟨b, x0, y0, nd, l, vs, zs, rfl, _, hb, rfl, hnm, rfl, _, hl, hzl, hvs, _, hun⟩ := pair_inv hv (all_get fb.1 hd')
        have hnn : nameD nd = true := by
          have z := List.all_eq_true.mp (unlike_all fb.2) nd (List.mem_map.mpr ⟨_, List.mem_of_getElem? hd', rfl⟩)
          exact z
        refine pick ?_
        refine ⟨_, rfl, b, _, _, x0, rfl, rfl, SqT.of (s5 _ _ hb), rfl, _, rfl, b, _, _, _, rfl, rfl, SqT.of (s5 _ _ hb), rfl, l, zs, rfl, .inl (SqL.of (s5 _ _ hl)), fun l2 hl2 => ⟨by show 2 ≤ sizeLine; decide, fun t ht => hN _ _ ⟨?_, ?_⟩⟩⟩
        · exact (s5.trans (Same.new hl2)).trans (Same.new ht)
        · rw [List.take_add_one, hd']
          have s6 : Same H' (upd (upd H' l2 (.lst zs)) t (.tup [x0, .ref l2])) := (Same.new hl2).trans (Same.new ht)
          refine (hy.mono s6).snoc (.tup ?_ upd_same (by show 2 ≤ 1000; decide) (.cons (name_any hnm hnn) (.cons (.lst ?_ ?_ hzl (names_any hvs (unlike_all hun))) .nil)))
          · exact n4 _ (s5.free ((Same.new (o := .lst zs) hl2).free ht))
          · exact n4 _ (s5.free hl2)
          · exact (Same.new ht) _ _ upd_same
      · rintro ys H' ⟨s5, hy⟩ l hl
        have ll : ys.length ≤ 1000 := by
          have := hy.length
          have := List.length_take_le xs.length ds
          have := hx.length
          omega
        rw [hx.length, List.take_length] at hy
        have hp5 : (upd H' l (.lst ys)) p = some (.ins C dx (putF "name" (.str n) [])) := (Same.new hl) _ _ (s5 _ _ hp4)
        refine ⟨_, rfl, p, C, dx, _, rfl, hp5, KC.cl, KC.nF, (by show 1 < 1000; decide), ?_⟩
        refine ⟨_, rfl, _, rfl, p, C, dx, _, rfl, upd_same, KC.cl, KC.nO, (by have := length_putF "fields" (V.ref l) (putF "name" (V.str n) []); have : (putF "name" (V.str n) []).length = 1 := rfl; omega), ?_⟩
        refine k _ l upd_same ?_ fun b o e hb => ?_
        · have h0 : Has (fun a => H a = none) (upd H' l (.lst ys)) (.ref l) (.list ds) := .lst (n4 _ (s5.free hl)) upd_same ll (hy.mono (Same.new hl))
          refine h0.frame fun b o g q => ⟨g, ?_⟩
          have hb : b ≠ p := fun z => by rw [z, hp] at g; cases g
          rw [upd_ne hb, upd_ne hb]
          exact q
        · rw [upd_ne hb, upd_ne hb]
          exact (Same.new hl) _ _ (s5 _ _ (k4 b o e hb))
end
end My
-- MOD K5B
namespace My
open PySem L2
/-! ### the law's own names: words, turned -/
noncomputable def words : List Str := ["a", "ac", "ab", "b", "box", "boxes", "bo", "zzzzzzzz", "abcdefgh", "of", "kind", "lid", "l", "is", "not", "want", "red", "lids", "wanted"]
noncomputable def lets : List Nat := [97, 98, 99, 100, 101, 102, 103, 104, 105, 106, 107, 108, 109, 110, 111, 112, 113, 114, 115, 116, 117, 118, 119, 120, 121, 122]
theorem letters_eq : letters.cps.toList = lets := by decide +kernel
theorem mem_lets {c : Nat} : c ∈ lets ↔ 97 ≤ c ∧ c ≤ 122 := by
  refine ⟨fun h => (by decide +kernel : ∀ c ∈ lets, 97 ≤ c ∧ c ≤ 122) c h, fun ⟨h1, h2⟩ => ?_⟩
  have := (by decide +kernel : ∀ i < 26, 97 + i ∈ lets) (c - 97) (by omega)
  rwa [Nat.add_sub_cancel' h1] at this
theorem charB_iff {c : Nat} : charB c = true ↔ 97 ≤ c ∧ c ≤ 122 := by
  unfold charB
  rw [letters_eq, decide_eq_true_eq, mem_lets]
theorem words_ok : ∀ x ∈ words, (1 ≤ x.length ∧ x.length ≤ 8) ∧ ∀ c ∈ x.cps.toList, 97 ≤ c ∧ c ≤ 122 := by decide +kernel
theorem words_nodup : words.Nodup := by decide +kernel
noncomputable def rotC (t c : Nat) : Nat := 97 + (c - 97 + t) % 26
noncomputable def rotS (t : Nat) (x : Str) : Str := ⟨(x.cps.toList.map (rotC t)).toArray⟩
theorem rotC_in (t c : Nat) : 97 ≤ rotC t c ∧ rotC t c ≤ 122 := by unfold rotC; omega
theorem rotC_inj {t c d : Nat} (hc : 97 ≤ c ∧ c ≤ 122) (hd : 97 ≤ d ∧ d ≤ 122) (h : rotC t c = rotC t d) : c = d := by unfold rotC at h; omega
theorem rotS_len (t : Nat) (x : Str) : (rotS t x).length = x.length := by
  show ((x.cps.toList.map (rotC t)).toArray).size = x.cps.size
  rw [List.size_toArray, List.length_map, Array.length_toList]
theorem map_inj_on {f : Nat → Nat} : ∀ {l m : List Nat}, (∀ c ∈ l, ∀ d ∈ m, f c = f d → c = d) → l.map f = m.map f → l = m
  | [], [], _, _ => rfl
  | [], _ :: _, _, h => by cases h
  | _ :: _, [], _, h => by cases h
  | a :: l, b :: m, k, h => by
    rw [List.map_cons, List.map_cons] at h
    injection h with h1 h2
    rw [k a List.mem_cons_self b List.mem_cons_self h1, map_inj_on (fun c hc d hd => k c (List.mem_cons_of_mem _ hc) d (List.mem_cons_of_mem _ hd)) h2]
theorem rotS_inj {t : Nat} {x y : Str} (hx : ∀ c ∈ x.cps.toList, 97 ≤ c ∧ c ≤ 122) (hy : ∀ c ∈ y.cps.toList, 97 ≤ c ∧ c ≤ 122) (h : rotS t x = rotS t y) : x = y := by
  unfold rotS at h
  injection h with h
  have h' : x.cps.toList.map (rotC t) = y.cps.toList.map (rotC t) := by simpa using congrArg Array.toList h
  have e := map_inj_on (fun c hc d hd q => rotC_inj (hx c hc) (hy d hd) q) h'
  cases x
  cases y
  exact congrArg Str.mk (Array.toList_inj.mp e)
theorem rotS_name {t : Nat} {x : Str} (h1 : 1 ≤ x.length) (h8 : x.length ≤ 8) : nameB (rotS t x) = true := by
  unfold nameB
  rw [rotS_len, decide_eq_true h1, decide_eq_true h8, Bool.true_and, Bool.true_and, List.all_eq_true]
  intro c hc
  have hc' : c ∈ x.cps.toList.map (rotC t) := by simpa [rotS] using hc
  obtain ⟨d, _, rfl⟩ := List.mem_map.mp hc'
  exact charB_iff.mpr (rotC_in t d)
theorem rotS_ok (t : Nat) (x : Str) : PyData.strOk (rotS t x) = true := by
  unfold PyData.strOk
  rw [Array.all_eq_true']
  intro c hc
  have hc' : c ∈ x.cps.toList.map (rotC t) := by simpa [rotS] using hc
  obtain ⟨d, _, rfl⟩ := List.mem_map.mp hc'
  have := rotC_in t d
  simp only [decide_eq_true_eq]
  omega
theorem mul19 : ∀ s < 19, ∀ d < 19, 0 < s → 0 < d → (s * d) % 19 ≠ 0 := by decide +kernel
theorem place_inj {a s i j : Nat} (hs : 0 < s) (hs' : s < 19) (hi : i < j) (hj : j < 19) (h : (a + s * i) % 19 = (a + s * j) % 19) : False := by
  have e : s * j = s * i + s * (j - i) := by rw [← Nat.mul_add]; congr 1; omega
  refine mul19 s hs' (j - i) (by omega) hs (by omega) ?_
  rw [e] at h
  omega
noncomputable def nm (a s t k : Nat) : Str := rotS t (words[(a + s * k) % 19]?.getD "")
theorem words_get (i : Nat) (h : i < 19) : ∃ x, words[i]? = some x ∧ x ∈ words := by
  have h' : i < words.length := h
  exact ⟨words[i], List.getElem?_eq_getElem h', List.getElem_mem _⟩
theorem words_two : ∀ x ∈ words, x.cps.toList.length = 2 → x.cps.toList[0]? ≠ x.cps.toList[1]? := by decide +kernel
theorem rotS_yy {t : Nat} {x : Str} (hx : x ∈ words) : rotS t x ≠ "yy" := by
  intro h
  have e : x.cps.toList.map (rotC t) = [121, 121] := by
    have := congrArg (fun y : Str => y.cps.toList) h
    exact this
  have two := words_two x hx
  have ok := (words_ok x hx).2
  generalize x.cps.toList = L at e two ok
  obtain ⟨a, b, rfl⟩ : ∃ a b, L = [a, b] := by
    have l2 := congrArg List.length e
    rw [List.length_map] at l2
    cases L with
    | nil => cases l2
    | cons a L =>
      cases L with
      | nil => cases l2
      | cons b L =>
        cases L with
        | nil => exact ⟨a, b, rfl⟩
        | cons c L => simp at l2
  simp only [List.map_cons, List.map_nil] at e
  injection e with e1 e2
  injection e2 with e2 _
  have := rotC_inj (ok a (by simp)) (ok b (by simp)) (e1.trans e2.symm)
  subst this
  exact two rfl rfl
theorem nm_ok (a s t k : Nat) : nameB (nm a s t k) = true ∧ PyData.strOk (nm a s t k) = true ∧ (nm a s t k).length ≤ 8 ∧ nm a s t k ≠ "yy" := by
  obtain ⟨x, e, hx⟩ := words_get ((a + s * k) % 19) (Nat.mod_lt _ (by decide))
  unfold nm
  rw [e, Option.getD_some]
  obtain ⟨⟨h1, h8⟩, _⟩ := words_ok x hx
  exact ⟨rotS_name h1 h8, rotS_ok t x, by rw [rotS_len]; exact h8, rotS_yy hx⟩
theorem nm_ne {a s t i j : Nat} (hs : 0 < s) (hs' : s < 19) (hi : i < j) (hj : j < 19) : nm a s t i ≠ nm a s t j := by
  intro h
  obtain ⟨x, e, hx⟩ := words_get ((a + s * i) % 19) (Nat.mod_lt _ (by decide))
  obtain ⟨y, e', hy⟩ := words_get ((a + s * j) % 19) (Nat.mod_lt _ (by decide))
  unfold nm at h
  rw [e, e', Option.getD_some, Option.getD_some] at h
  have q := rotS_inj (words_ok x hx).2 (words_ok y hy).2 h
  subst q
  have z := (List.getElem?_inj (show (a + s * i) % 19 < words.length from Nat.mod_lt _ (by decide)) words_nodup).mp (e.trans e'.symm)
  exact place_inj hs hs' hi hj z
theorem nms_nodup {a s t : Nat} (hs : 0 < s) (hs' : s < 19) : ∀ n, n ≤ 19 → ((List.range n).map (nm a s t)).Nodup
  | 0, _ => List.nodup_nil
  | n + 1, h => by
    rw [List.range_succ, List.map_append]
    refine List.nodup_append.mpr ⟨nms_nodup hs hs' n (by omega), by simp, ?_⟩
    intro x hx y hy
    simp only [List.map_cons, List.map_nil, List.mem_cons, List.not_mem_nil, or_false] at hy
    subst hy
    obtain ⟨i, hi, rfl⟩ := List.mem_map.mp hx
    exact nm_ne hs hs' (List.mem_range.mp hi) (by omega)
theorem index_of : ∀ c ∈ lets, Builtin.Str.occurrences letters ⟨#[c]⟩ 0 letters.length 1 = [c - 97] := by decide +kernel
theorem join1 : ∀ cs : List Nat, Str.join ⟨#[]⟩ (cs.map fun c => (⟨#[c]⟩ : Str)) = ⟨cs.toArray⟩
  | [] => rfl
  | [c] => rfl
  | c :: d :: r => by
    show (⟨#[c]⟩ : Str) ++ ⟨#[]⟩ ++ Str.join ⟨#[]⟩ ((d :: r).map fun c => (⟨#[c]⟩ : Str)) = _
    rw [join1 (d :: r)]
    show (⟨(#[c] ++ #[]) ++ (d :: r).toArray⟩ : Str) = _
    congr 1
    apply Array.toList_inj.mp
    simp
theorem joinOk1 {cs : List Nat} (h : cs.length ≤ 1000) : PySem.JoinOk (⟨#[]⟩ : Str) (cs.map fun c => (⟨#[c]⟩ : Str)) = true := by
  have key : ∀ (l : List Nat) (n : Nat), (l.map fun c => (⟨#[c]⟩ : Str)).foldl (fun a x => a + x.length + (⟨#[]⟩ : Str).length) n = n + l.length := by
    intro l
    induction l with
    | nil => intro n; rfl
    | cons c r ih =>
      intro n
      rw [List.map_cons, List.foldl_cons, ih, List.length_cons]
      show n + 1 + 0 + r.length = _
      omega
  unfold PySem.JoinOk
  rw [List.foldl_toArray, key]
  have := small1000 h
  unfold Builtin.Str.tooLong
  simp
  omega
theorem comp_charsM {x : Str} {k : Nat} {σ : St} {H : Hp} {g : TG} {tt : TT} {te : TE} {Q : VK} (f : Nat → V) (hz : x.length ≤ sizeLine)
    (hs : ∀ c (Ry : VK), c ∈ x.cps.toList → Ry (f c) H → ∀ Rn : Hp → Prop, g (.str ⟨#[c]⟩) (σ ++ List.replicate k none) H fun σ2 H2 => tt σ2 H2 fun b H3 => if b = true then te σ2 H3 Ry else Rn H3)
    (hd : ∀ q, H q = none → Q (.ref q) (upd H q (.lst (x.cps.toList.map f)))) : CompGoal (Its x) k σ H g tt te Q := by
  have hlen : x.cps.toList.length = x.length := by rw [Array.length_toList]; rfl
  refine comp_by (J := Its x) (n := x.length) (fun i ys H' => H' = H ∧ ys = (x.cps.toList.take i).map f) ⟨rfl, rfl⟩ (fun i ys H' lt _ => lt) (fun ys H' _ => Nat.le_refl _) (fun i ys H' hi q => ?_) ?_ ?_
  · obtain ⟨_, rfl⟩ := q
    rw [List.length_map]
    have b := List.length_take_le i x.cps.toList
    omega
  · rintro i ys H' v H2 lt ⟨rfl, rfl⟩ ⟨rfl, c, hc, rfl⟩ N hN
    have hc' : x.cps.toList[i]? = some c := by rw [Array.getElem?_toList]; exact hc
    refine hs c _ (List.mem_of_getElem? hc') (hN _ _ ⟨rfl, ?_⟩) _
    rw [List.take_add_one, hc', List.map_append]
    rfl
  · rintro ys H' ⟨rfl, rfl⟩ q hq
    rw [← hlen, List.take_length]
    exact hd q hq
noncomputable def spSign : Sp := fun vs H Q _ => ∃ (c t : Nat), vs = [.str ⟨#[c]⟩, .int t] ∧ (97 ≤ c ∧ c ≤ 122) ∧ Q (.str ⟨#[rotC t c]⟩) H
noncomputable def spNames : Sp := fun vs H Q _ => ∃ (p : Addr) (m k : Int), vs = [.ref p, .int m] ∧ Src H p k ∧ k ≤ 990000 ∧ 0 ≤ m ∧ m ≤ 19 ∧
  ∀ (l : Addr) (ks : List Str) (H' : Hp), (ks.length : Int) = m → ks.Nodup → (∀ x ∈ ks, nameB x = true ∧ PyData.strOk x = true ∧ x.length ≤ 8 ∧ x ≠ "yy") → H' l = some (.lst (ks.map V.str)) → H l = none → Src H' p (k + 5) → (∀ b o, H b = some o → b ≠ p → H' b = some o) → Q (.ref l) H'
section
variable {P : Program} {w : World} {K : PySem.W.Frag} {mg : Str → Option Value} {base : Heap} {CX : CXT}
theorem scSg : FnScope ["_law_sign_here", "_law_turn", "_law_small"] ["_law_sign_here", "_law_turn"] (defScope sSign) := ⟨rfl, rfl, rfl, by decide +kernel, rfl, by decide +kernel, by decide +kernel⟩
theorem ok_sign {f : Addr} {fd : FuncData} (F : Fun K "_law_sign" "_law_sign" sSign f fd) : FnOk P w K mg base CX 1 f fd ["_law_sign_here", "_law_turn"] spSign := by
  refine Fun.okC F scSg (fun vs H Q E h => ?_) (fun cdv A outer s H vs Q E hr h => ?_)
  · obtain ⟨c, t, rfl, _⟩ := h
    rfl
  · obtain ⟨c, t, rfl, hc, k⟩ := h
    refine ⟨_, pss_cons (ps_set (i := 2) scSg.nd rfl (Or.inl rfl) pe_str)
      (pss_one (ps_ret (pe_ix ix_str (pv 2) (pe_op op_mod (pe_op op_add (pe_bm PySem.F.plainAttrs_str PySem.F.slot_str_index PySem.F.type_str_index mt_index (pv 2) (pa_cons (pv 0) pa_nil)) (pv 1)) pe_int) (fun _ _ => rfl)))), ?_⟩
    refine ⟨_, rfl, _, rfl, rfl, _, rfl, letters, _, c - 97, [], rfl, rfl, index_of c (mem_lets.mpr hc), ?_⟩
    refine ⟨_, rfl, _, _, rfl, rfl, _, _, rfl, rfl, (by show (0 : Int) < 26; decide), ?_⟩
    have hi : (c - 97 + t) % 26 < 26 := Nat.mod_lt _ (by decide)
    have e : lets[(c - 97 + t) % 26]? = some (rotC t c) := by
      have key : ∀ i < 26, lets[i]? = some (97 + i) := by decide +kernel
      exact key _ hi
    refine ⟨letters, _, rotC t c, rfl, rfl, Nat.le_of_lt (small1000 (by decide +kernel)), ?_, k⟩
    have e2 : (((c - 97 : Nat) : Int) + (t : Int)) % 26 = (((c - 97 + t) % 26 : Nat) : Int) := by omega
    show atI letters.cps.toList ((((c - 97 : Nat) : Int) + (t : Int)) % 26) = some (rotC t c)
    rw [e2, letters_eq]
    exact atI_nat e
end
end My
-- MOD K5C
namespace L2.W
open PySem My
section
variable {P : Program} {w : World} {K : PySem.W.Frag} {mg : Str → Option Value} {base : Heap} {CX : CXT}
theorem scNm : FnScope ["_law_source", "_law_many", "_law_words", "_law_start", "_law_step", "_law_turn", "_law_some"] ["_law_source", "_law_many"] (defScope sNames) := ⟨rfl, rfl, rfl, by decide +kernel, rfl, by decide +kernel, by decide +kernel⟩
set_option maxHeartbeats 4000000 in
theorem ok_names {f fm fn fs : Addr} {fd fdm fdn fds : FuncData} (hC : Calm CX) (T : Tops K mg) (F : Fun K "_law_names" "_law_names" sNames f fd) (DM : Def K mg "_law_mixed" sMixed ["_law_cell", "_law_k"] fm fdm)
    (DN : Def K mg "_law_next" sNext ["_law_source", "_law_many"] fn fdn) (DS : Def K mg "_law_sign" sSign ["_law_sign_here", "_law_turn"] fs fds) : FnOk P w K mg base CX 3 f fd ["_law_source", "_law_many"] spNames := by
  have GN : FnOk P w K mg base CX 2 fn fdn ["_law_source", "_law_many"] spNext := ok_next hC DN.fn DM
  have GS : FnOk P w K mg base CX 1 fs fds ["_law_sign_here", "_law_turn"] spSign := ok_sign DS.fn
  refine Fun.okC F scNm (fun vs H Q E h => ?_) (fun cdv A outer s H vs Q E hr h => ?_)
  · obtain ⟨p, m, k, rfl, _⟩ := h
    rfl
  · obtain ⟨p, m, k, rfl, S0, hk, m0, m1, q⟩ := h
    have nd := scNm.nd
    have hr1 := hr.mono (show 1 ≤ 2 by decide)
    refine ⟨_, pss_cons (ps_set (i := 2) nd rfl (Or.inr rfl) (pe_lst (pa_consts (vs := [.str "a", .str "ac", .str "ab", .str "b", .str "box", .str "boxes", .str "bo", .str "zzzzzzzz", .str "abcdefgh", .str "of"]) (by decide +kernel))))
      (pss_cons (ps_set (i := 2) nd rfl (Or.inr rfl) (pe_op op_cat (pv 2) (pe_lst (pa_consts (vs := [.str "kind", .str "lid", .str "l", .str "is", .str "not", .str "want", .str "red", .str "lids", .str "wanted"]) (by decide +kernel)))))
      (pss_cons (ps_set (i := 3) nd rfl (Or.inr rfl) (pe_call GN hr rfl DN.at_ DN.fn.kp DN.bind .nil (passC hC) (pa_cons (pv 0) (pa_cons pe_int pa_nil))))
      (pss_cons (ps_set (i := 4) nd rfl (Or.inr rfl) (pe_op op_add pe_int (pe_call GN hr rfl DN.at_ DN.fn.kp DN.bind .nil (passC hC) (pa_cons (pv 0) (pa_cons pe_int pa_nil)))))
      (pss_cons (ps_set (i := 5) nd rfl (Or.inr rfl) (pe_ix ix_list (pe_lst (pa_cons pe_int (pa_cons (pe_call GN hr rfl DN.at_ DN.fn.kp DN.bind .nil (passC hC) (pa_cons (pv 0) (pa_cons pe_int pa_nil))) pa_nil))) (pe_call GN hr rfl DN.at_ DN.fn.kp DN.bind .nil (passC hC) (pa_cons (pv 0) (pa_cons pe_int pa_nil))) (fun _ _ => rfl)))
      (pss_cons (ps_setComp (T := ["_law_k"]) (i := 6) rfl ScOk.auto (pi_range1 rfl T.range (pa_cons (pv 1) pa_nil)) (fun _ _ _ _ => pg_name (i := 7) (by decide +kernel : (["_law_source", "_law_many", "_law_words", "_law_start", "_law_step", "_law_turn", "_law_some", "_law_k"] : List Str).Nodup) rfl (Or.inl rfl)) (fun _ _ _ _ => pf_nil)
        (fun _ _ _ _ => pe_ix (r := rIxL K) ix_list (pv 2) (pe_op op_mod (pe_op op_add (pv 3) (pe_op op_mul (pv 4) (pv 7))) pe_int) (fun _ _ => rfl)) nd rfl rfl rfl)
      (pss_one (ps_ret (pe_comp (T := ["_law_word_here"]) rfl ScOk.auto (pi_list (pv 6)) (fun _ _ _ _ => pg_name (i := 7) (by decide +kernel : (["_law_source", "_law_many", "_law_words", "_law_start", "_law_step", "_law_turn", "_law_some", "_law_word_here"] : List Str).Nodup) rfl (Or.inl rfl)) (fun _ _ _ _ => pf_nil)
        (fun _ _ _ _ => pe_bmK rfl PySem.F.plainAttrs_str PySem.F.slot_str_join PySem.F.type_str_join (mt_join (K := K) rfl) pe_str (pa_cons (pe_comp (T := ["_law_sign_here"]) rfl ScOk.auto (pi_str (pv 7)) (fun _ _ _ _ => pg_name (i := 8) (by decide +kernel : (["_law_source", "_law_many", "_law_words", "_law_start", "_law_step", "_law_turn", "_law_some", "_law_word_here", "_law_sign_here"] : List Str).Nodup) rfl (Or.inl rfl)) (fun _ _ _ _ => pf_nil)
          (fun _ _ _ _ => pe_call GS hr1 rfl DS.at_ DS.fn.kp DS.bind .nil (passC hC) (pa_cons (pv 8) (pa_cons (pv 5) pa_nil)))) pa_nil)))))))))), ?_⟩
    have small : ∀ n : Nat, n ≤ 1000 → n ≤ sizeLine := fun n h => Nat.le_of_lt (small1000 h)
    have src : ∀ {H1 H2 : Hp} {j : Int}, Src H1 p j → (∀ o, H1 p = some o → H2 p = some o) → Src H2 p j := fun ⟨a, c, i, e, r⟩ h => ⟨a, c, i, h _ e, r⟩
    have hp0 : ∀ b, H b = none → b ≠ p := fun b hb => by obtain ⟨a, c, j, e, _⟩ := S0; exact (ne_of_none e hb).symm
    -- the words
    refine ⟨small _ (by simp), fun w1 h1 => ?_⟩
    refine ⟨_, rfl, small _ (by simp), fun w2 h2 => ⟨w1, w2, _, _, rfl, rfl, (Same.new h2) _ _ upd_same, upd_same, small _ (by simp), fun w3 h3 => ?_⟩⟩
    have hw3 : (upd (upd (upd H w1 (.lst [.str "a", .str "ac", .str "ab", .str "b", .str "box", .str "boxes", .str "bo", .str "zzzzzzzz", .str "abcdefgh", .str "of"])) w2 (.lst [.str "kind", .str "lid", .str "l", .str "is", .str "not", .str "want", .str "red", .str "lids", .str "wanted"])) w3 (.lst ([.str "a", .str "ac", .str "ab", .str "b", .str "box", .str "boxes", .str "bo", .str "zzzzzzzz", .str "abcdefgh", .str "of"] ++ [.str "kind", .str "lid", .str "l", .str "is", .str "not", .str "want", .str "red", .str "lids", .str "wanted"]))) w3 = some (.lst (words.map V.str)) := upd_same
    have sH : Same H (upd (upd (upd H w1 (.lst [.str "a", .str "ac", .str "ab", .str "b", .str "box", .str "boxes", .str "bo", .str "zzzzzzzz", .str "abcdefgh", .str "of"])) w2 (.lst [.str "kind", .str "lid", .str "l", .str "is", .str "not", .str "want", .str "red", .str "lids", .str "wanted"])) w3 (.lst ([.str "a", .str "ac", .str "ab", .str "b", .str "box", .str "boxes", .str "bo", .str "zzzzzzzz", .str "abcdefgh", .str "of"] ++ [.str "kind", .str "lid", .str "l", .str "is", .str "not", .str "want", .str "red", .str "lids", .str "wanted"]))) := ((Same.new h1).trans (Same.new h2)).trans (Same.new h3)
    have fw3 : H w3 = none := ((Same.new h1).trans (Same.new h2)).free h3
    generalize upd (upd (upd H w1 (.lst [.str "a", .str "ac", .str "ab", .str "b", .str "box", .str "boxes", .str "bo", .str "zzzzzzzz", .str "abcdefgh", .str "of"])) w2 (.lst [.str "kind", .str "lid", .str "l", .str "is", .str "not", .str "want", .str "red", .str "lids", .str "wanted"])) w3 (.lst ([.str "a", .str "ac", .str "ab", .str "b", .str "box", .str "boxes", .str "bo", .str "zzzzzzzz", .str "abcdefgh", .str "of"] ++ [.str "kind", .str "lid", .str "l", .str "is", .str "not", .str "want", .str "red", .str "lids", .str "wanted"])) = G0 at *
    have S1 : Src G0 p k := src S0 fun o e => sH _ _ e
    have np3 : w3 ≠ p := hp0 _ fw3
    -- start, step, turn
    refine ⟨_, rfl, p, _, k, rfl, S1, by omega, by decide, by decide, fun a G1 a0 a1 S2 k1 => ?_⟩
    refine ⟨_, rfl, p, _, _, rfl, S2, by omega, by decide, by decide, fun b G2 b0 b1 S3 k2 => ⟨_, _, rfl, rfl, ?_⟩⟩
    refine ⟨_, rfl, p, _, _, rfl, S3, by omega, by decide, by decide, fun c G3 c0 c1 S4 k3 => ⟨small _ (by simp), fun q1 hq1 => ?_⟩⟩
    have nq : q1 ≠ p := by obtain ⟨_, _, _, e, _⟩ := S4; exact (ne_of_none e hq1).symm
    have S5 : Src (upd G3 q1 (.lst [.int 0, .int c])) p (k + 1 + 1 + 1) := src S4 fun o e => (Same.new hq1) _ _ e
    refine ⟨_, rfl, p, _, _, rfl, S5, by omega, by decide, by decide, fun d G4 d0 d1 S6 k4 => ?_⟩
    have hq4 : G4 q1 = some (.lst [.int 0, .int c]) := by rw [k4 q1 nq]; exact upd_same
    obtain ⟨t, ht⟩ : ∃ t : Nat, atI [V.int 0, V.int c] d = some (.int (t : Int)) := by
      rcases (show d = 0 ∨ d = 1 by omega) with rfl | rfl
      · exact ⟨0, rfl⟩
      · exact ⟨c.toNat, by rw [show ((c.toNat : Nat) : Int) = c by omega]; rfl⟩
    refine ⟨q1, _, _, _, rfl, rfl, SqL.of hq4, ht, ?_⟩
    have fr : ∀ b o, G0 b = some o → b ≠ p → G4 b = some o := fun b o e hb => by
      rw [k4 b hb]
      refine (Same.new hq1) _ _ ?_
      rw [k3 b hb, k2 b hb, k1 b hb]
      exact e
    have hw4 := fr _ _ hw3 np3
    obtain ⟨a', rfl⟩ : ∃ n : Nat, a = n := ⟨a.toNat, by omega⟩
    obtain ⟨b', rfl⟩ : ∃ n : Nat, b = n := ⟨b.toNat, by omega⟩
    obtain ⟨m', rfl⟩ : ∃ n : Nat, m = n := ⟨m.toNat, by omega⟩
    have hb19 : 0 < 1 + b' ∧ 1 + b' < 19 := by omega
    -- the chosen words
    refine ⟨_, rfl, (m' : Int), rfl, by omega, by omega, ?_⟩
    rw [Int.toNat_natCast]
    refine comp_range (lo := 0) (n := m') (fun i ys H' => H' = G4 ∧ ys = (List.range i).map fun j => V.str (words[(a' + (1 + b') * j) % 19]?.getD "")) ⟨rfl, rfl⟩ (fun i ys H' hi z => ?_) ?_ ?_
    · rw [z.2, List.length_map, List.length_range]
      exact small _ (by omega)
    · rintro i ys H' hi ⟨rfl, rfl⟩ N hN
      refine pick ?_
      refine ⟨_, rfl, _, rfl, _, rfl, _, rfl, _, _, rfl, rfl, .inl ⟨by omega, by omega⟩, _, _, rfl, rfl, _, _, rfl, rfl, (by show (0 : Int) < 19; decide), ?_⟩
      obtain ⟨x, ex, _⟩ := words_get ((a' + (1 + b') * i) % 19) (Nat.mod_lt _ (by decide))
      have e1 : ((a' : Int) + (1 + (b' : Int)) * (0 + (i : Int))) % 19 = (((a' + (1 + b') * i) % 19 : Nat) : Int) := by
        rw [Int.zero_add]
        push_cast
        rfl
      refine ⟨w3, words.map V.str, _, .str x, rfl, rfl, SqL.of hw4, ?_, hN _ _ ⟨rfl, ?_⟩⟩
      · show atI (words.map V.str) (((a' : Int) + (1 + (b' : Int)) * (0 + (i : Int))) % 19) = some (.str x)
        rw [e1]
        refine atI_nat ?_
        rw [List.getElem?_map, ex]
        rfl
      · rw [List.range_succ, List.map_append]
        show _ ++ [V.str x] = _ ++ [V.str (words[(a' + (1 + b') * i) % 19]?.getD "")]
        rw [ex]
        rfl
    · rintro ys H' ⟨rfl, rfl⟩ l1 hl1
      -- turned
      have sL := Same.new (o := .lst ((List.range m').map fun j => V.str (words[(a' + (1 + b') * j) % 19]?.getD ""))) hl1
      have hl2 : (upd H' l1 (.lst ((List.range m').map fun j => V.str (words[(a' + (1 + b') * j) % 19]?.getD "")))) l1 = some (.lst ((List.range m').map fun j => V.str (words[(a' + (1 + b') * j) % 19]?.getD ""))) := upd_same
      generalize upd H' l1 (.lst ((List.range m').map fun j => V.str (words[(a' + (1 + b') * j) % 19]?.getD ""))) = G5 at sL hl2 ⊢
      refine ⟨_, rfl, l1, rfl, ⟨_, SqL.of hl2⟩, comp_list (xs := (List.range m').map fun j => V.str (words[(a' + (1 + b') * j) % 19]?.getD "")) (fun i ys H' => Same G5 H' ∧ ys = (List.range i).map fun j => V.str (nm a' (1 + b') t j)) ⟨Same.refl _, rfl⟩ (fun i ys H' z => SqL.of (z.1 _ _ hl2)) (fun i ys H' hi z => ?_) ?_ ?_⟩
      · rw [z.2, List.length_map, List.length_range]
        rw [List.length_map, List.length_range] at hi
        exact small _ (by omega)
      · rintro i x ys H6 hi ⟨s6, rfl⟩ N hN
        have hi' : i < m' := by have := (List.getElem?_eq_some_iff.mp hi).1; simpa using this
        have ex : x = V.str (words[(a' + (1 + b') * i) % 19]?.getD "") := by
          rw [List.getElem?_map, List.getElem?_range hi'] at hi
          exact (Option.some.inj hi).symm
        subst ex
        obtain ⟨x, ex, hxw⟩ := words_get ((a' + (1 + b') * i) % 19) (Nat.mod_lt _ (by decide))
        have en : nm a' (1 + b') t i = rotS t x := by unfold nm; rw [ex]; rfl
        rw [ex, Option.getD_some]
        have okx := words_ok x hxw
        refine pick ?_
        refine ⟨rfl, ?_⟩
        refine ⟨_, rfl, x, rfl, comp_charsM (fun c => .str ⟨#[rotC t c]⟩) (small _ (by omega)) (fun c Ry hc hR Rn => ?_) (fun q2 hq2 => ?_)⟩
        · refine pick ?_
          exact ⟨_, rfl, _, rfl, c, t, rfl, okx.2 c hc, hR⟩
        · have el : x.cps.toList.map (fun c => V.str ⟨#[rotC t c]⟩) = ((x.cps.toList.map (rotC t)).map fun c => (⟨#[c]⟩ : Str)).map V.str := by
            rw [List.map_map, List.map_map]
            rfl
          have ee : ("" : Str) = ⟨#[]⟩ := by decide +kernel
          refine ⟨⟨#[]⟩, q2, (x.cps.toList.map (rotC t)).map fun c => (⟨#[c]⟩ : Str), congrArg V.str ee, rfl, SqL.of (by rw [upd_same, el]), joinOk1 ?_, ?_⟩
          · rw [List.length_map, Array.length_toList]
            have : x.cps.size = x.length := rfl
            omega
          · have ej : Txt.join ⟨#[]⟩ ((x.cps.toList.map (rotC t)).map fun c => (⟨#[c]⟩ : Str)) = rotS t x := by
              show Builtin.Str.glued _ _ = _
              rw [PySem.StrLaws.glued_eq_join, join1]
              rfl
            rw [ej, ← en]
            refine hN _ _ ⟨s6.trans (Same.new hq2), ?_⟩
            rw [List.range_succ, List.map_append]
            rfl
      · rintro ys H6 ⟨s6, rfl⟩ l hl
        rw [List.length_map, List.length_range]
        have sN := Same.new (o := .lst ((List.range m').map fun j => V.str (nm a' (1 + b') t j))) hl
        have nl : l ≠ p := by
          obtain ⟨_, _, _, e, _⟩ := S6
          exact (ne_of_none (s6 _ _ (sL _ _ e)) hl).symm
        refine q l ((List.range m').map (nm a' (1 + b') t)) _ (by rw [List.length_map, List.length_range]) (nms_nodup hb19.1 hb19.2 m' (by omega)) (fun x hx => ?_) (by rw [upd_same, List.map_map]; rfl) ?_ ?_ fun b o e hb => ?_
        · obtain ⟨j, _, rfl⟩ := List.mem_map.mp hx
          exact nm_ok _ _ _ _
        · cases z : H l with
          | none => rfl
          | some o =>
            have := s6 _ _ (sL _ _ (fr _ _ (sH _ _ z) nl))
            rw [this] at hl
            cases hl
        · exact (src S6 fun o e => sN _ _ (s6 _ _ (sL _ _ e))).mono (by omega)
        · exact sN _ _ (s6 _ _ (sL _ _ (fr _ _ (sH _ _ e) hb)))
end
end L2.W
-- MOD K5D
namespace L2.W
open PySem My
/-! ### the law's own fields -/
noncomputable def nameOk (x : Str) : Prop := nameB x = true ∧ PyData.strOk x = true ∧ x.length ≤ 8 ∧ x ≠ "yy"
structure ValsOk (vs : List Str) : Prop where
  ne : 0 < vs.length
  le : vs.length ≤ 8
  nd : vs.Nodup
  ok : ∀ x ∈ vs, nameOk x
noncomputable def fieldD (f : Str × List Str) : PyData := .tuple [.str f.1, .list (f.2.map .str)]
noncomputable def manyOf (fs : List (Str × List Str)) : Nat := fs.foldl (fun m f => m * f.2.length) 1
structure FieldsOk (fs : List (Str × List Str)) : Prop where
  le : fs.length ≤ 3
  nd : (fs.map (·.1)).Nodup
  ok : ∀ f ∈ fs, nameOk f.1 ∧ ValsOk f.2
  many : manyOf fs ≤ 8
noncomputable def SzOk (szs : List Nat) : Prop := szs.length ≤ 3 ∧ (∀ n ∈ szs, 1 ≤ n ∧ n ≤ 8) ∧ szs.foldl (fun m n => m * n) 1 ≤ 8
noncomputable def Tab (H0 H : Hp) (v : V) : Prop := ∃ (r : Addr) (szs : List Nat), v = .ref r ∧ H0 r = none ∧ H r = some (.lst (szs.map fun (n : Nat) => V.int (n : Int))) ∧ SzOk szs
noncomputable def spLFields : Sp := fun vs H Q _ => ∃ (p : Addr) (k : Int), vs = [.ref p] ∧ Src H p k ∧ k ≤ 900000 ∧
  ∀ (l : Addr) (fs : List (Str × List Str)) (H' : Hp), FieldsOk fs → Has (fun a => H a = none) H' (.ref l) (.list (fs.map fieldD)) → Src H' p (k + 30) → (∀ b o, H b = some o → b ≠ p → H' b = some o) → Q (.ref l) H'
noncomputable def szss : List (List Nat) := [[], [1], [2], [3], [8], [2, 2], [2, 3], [4, 2], [2, 2, 2], [1, 2, 4], [1, 1, 1], [5], [7, 1]]
noncomputable def tables : List (List V) := szss.map fun z => z.map fun (n : Nat) => V.int (n : Int)
theorem sz_ok : ∀ z ∈ szss, z.length ≤ 3 ∧ (∀ n ∈ z, 1 ≤ n ∧ n ≤ 8) ∧ z.foldl (fun m n => m * n) 1 ≤ 8 := by decide
theorem paired_mem {α β : Type} {R : α → β → Prop} : ∀ {l : List α} {m : List β}, Paired R l m → ∀ b ∈ m, ∃ a ∈ l, R a b
  | _, _, .nil, b, h => by simp at h
  | _, _, .cons (a := a) r t, b, h => by
    rcases List.mem_cons.mp h with rfl | h
    · exact ⟨a, List.mem_cons_self, r⟩
    · obtain ⟨c, hc, q⟩ := paired_mem t b h
      exact ⟨c, List.mem_cons_of_mem _ hc, q⟩
theorem tab_all {H H' : Hp} {rs : List V} (h : Laid H H' tables rs) : ∀ v ∈ rs, Tab H H' v := by
  intro v hv
  obtain ⟨vs, hvs, a, rfl, n, q⟩ := paired_mem h v hv
  obtain ⟨z, hz, rfl⟩ := List.mem_map.mp hvs
  exact ⟨a, z, rfl, n, q, sz_ok z hz⟩
theorem pickT {K : PySem.W.Frag} {A B : St → Hp → Prop} {σ : St} {H : Hp} {i j : Nat} {p : Addr} {x y : V} (hp : SqT K H p [x, y]) (h : A ((σ.set i (some x)).set j (some y)) H) :
    gTup K 2 (gCons (gName i) (gCons (gName j) gNil)) (.ref p) σ H fun σ2 H2 => tYes σ2 H2 fun b H3 => if b = true then A σ2 H3 else B σ2 H3 := by
  refine ⟨p, [x, y], rfl, hp, rfl, x, [y], rfl, y, [], rfl, rfl, ?_⟩
  show if true = true then A ((σ.set i (some x)).set j (some y)) H else B ((σ.set i (some x)).set j (some y)) H
  rw [if_pos rfl]
  exact h
theorem zip_snoc {α β : Type} : ∀ {l : List α} {m : List β} {i : Nat} {a : α} {b : β}, m.length = i → l[i]? = some a → (l.take (i + 1)).zip (m ++ [b]) = (l.take i).zip m ++ [(a, b)] := by
  intro l m i a b hm hl
  have e : l.take (i + 1) = l.take i ++ [a] := by rw [List.take_add_one, hl]; rfl
  rw [e, List.zip_append]
  · rfl
  · have := (List.getElem?_eq_some_iff.mp hl).1
    rw [List.length_take]
    omega
theorem names_has {G : Addr → Prop} {H : Hp} : ∀ {ks : List Str}, (∀ x ∈ ks, nameOk x) → HasAll G H (ks.map V.str) (ks.map .str)
  | [], _ => .nil
  | k :: r, h => .cons (.str k (by have := (h k List.mem_cons_self).2.2; omega) (h k List.mem_cons_self).2.1) (names_has fun x hx => h x (List.mem_cons_of_mem _ hx))
theorem many_eq : ∀ (fs : List (Str × List Str)) (m : Nat), fs.foldl (fun m f => m * f.2.length) m = (fs.map (·.2.length)).foldl (fun m n => m * n) m
  | [], m => rfl
  | f :: r, m => by rw [List.foldl_cons, List.map_cons, List.foldl_cons, many_eq r]
section
variable {P : Program} {w : World} {K : PySem.W.Frag} {mg : Str → Option Value} {base : Heap} {CX : CXT}
theorem scLf : FnScope ["_law_source", "_law_some", "_law_sizes"] ["_law_source"] (defScope sLFields) := ⟨rfl, rfl, rfl, by decide +kernel, rfl, by decide +kernel, by decide +kernel⟩
set_option maxHeartbeats 4000000 in
theorem ok_lfields {f fm fn fs fnm : Addr} {fd fdm fdn fds fdnm : FuncData} (hC : Calm CX) (T : Tops K mg) (F : Fun K "_law_fields" "_law_fields" sLFields f fd) (DM : Def K mg "_law_mixed" sMixed ["_law_cell", "_law_k"] fm fdm)
    (DN : Def K mg "_law_next" sNext ["_law_source", "_law_many"] fn fdn) (DS : Def K mg "_law_sign" sSign ["_law_sign_here", "_law_turn"] fs fds) (DA : Def K mg "_law_names" sNames ["_law_source", "_law_many"] fnm fdnm) : FnOk P w K mg base CX 4 f fd ["_law_source"] spLFields := by
  have GN : FnOk P w K mg base CX 2 fn fdn ["_law_source", "_law_many"] spNext := ok_next hC DN.fn DM
  have GA : FnOk P w K mg base CX 3 fnm fdnm ["_law_source", "_law_many"] spNames := ok_names hC T DA.fn DM DN DS
  refine Fun.okC F scLf (fun vs H Q E h => ?_) (fun cdv A outer s H vs Q E hr h => ?_)
  · obtain ⟨p, k, rfl, _⟩ := h
    rfl
  · obtain ⟨p, k, rfl, S0, hk, q⟩ := h
    have nd := scLf.nd
    have hr2 := hr.mono (show 2 ≤ 3 by decide)
    refine ⟨_, pss_cons (ps_set (i := 1) nd rfl (Or.inl rfl) (pe_lst (pa_lists (vss := tables) (by decide +kernel) (by decide +kernel))))
      (pss_cons (ps_set (i := 2) nd rfl (Or.inl rfl) (pe_ix ix_list (pv 1) (pe_call GN hr2 rfl DN.at_ DN.fn.kp DN.bind .nil (passC hC) (pa_cons (pv 0) (pa_cons pe_int pa_nil))) (fun _ _ => rfl)))
      (pss_one (ps_ret (pe_comp (T := ["_law_name", "_law_size"]) rfl ScOk.auto (pi_zip rfl T.zip (pa_cons (pe_call GA hr rfl DA.at_ DA.fn.kp DA.bind .nil (passC hC) (pa_cons (pv 0) (pa_cons (pe_callB call_len_seq rfl T.len PySem.boot_len (pa_cons (pv 2) pa_nil)) pa_nil))) (pa_cons (pv 2) pa_nil)))
        (fun _ _ _ _ => pg_tupK (K := K) (n := 2) rfl rfl (pgs_cons (pg_name (i := 3) (by decide +kernel : (["_law_source", "_law_some", "_law_sizes", "_law_name", "_law_size"] : List Str).Nodup) rfl (Or.inl rfl)) (pgs_cons (pg_name (i := 4) (by decide +kernel : (["_law_source", "_law_some", "_law_sizes", "_law_name", "_law_size"] : List Str).Nodup) rfl (Or.inl rfl)) pgs_nil))) (fun _ _ _ _ => pf_nil)
        (fun _ _ _ _ => pe_tup (pa_cons (pv 3) (pa_cons (pe_call GA hr rfl DA.at_ DA.fn.kp DA.bind .nil (passC hC) (pa_cons (pv 0) (pa_cons (pv 4) pa_nil))) pa_nil))))))), ?_⟩
    have small : ∀ n : Nat, n ≤ 1000 → n ≤ sizeLine := fun n h => Nat.le_of_lt (small1000 h)
    have src : ∀ {H1 H2 : Hp} {j : Int}, Src H1 p j → (∀ o, H1 p = some o → H2 p = some o) → Src H2 p j := fun ⟨a, c, i, e, r⟩ h => ⟨a, c, i, h _ e, r⟩
    have np : ∀ {G : Hp} {j : Int} {b : Addr}, Src G p j → G b = none → b ≠ p := fun ⟨_, _, _, e, _⟩ h => (ne_of_none e h).symm
    -- the table
    refine fun rs G0 s0 L0 => ⟨?_, fun w hw => ?_⟩
    · rw [← L0.length]
      exact small _ (by decide)
    have lrs : rs.length = 13 := L0.length.symm
    have s1 : Same H (upd G0 w (.lst rs)) := s0.trans (Same.new hw)
    have tab : ∀ v ∈ rs, Tab H (upd G0 w (.lst rs)) v := tab_all (L0.mono (Same.refl _) (Same.new hw))
    have hw1 : (upd G0 w (.lst rs)) w = some (.lst rs) := upd_same
    have fw : H w = none := s0.free hw
    generalize upd G0 w (.lst rs) = G1 at s1 tab hw1 ⊢
    have S1 : Src G1 p k := src S0 fun o e => s1 _ _ e
    refine ⟨_, rfl, _, rfl, p, _, k, rfl, S1, by omega, by decide, by decide, fun d G2 d0 d1 S2 k2 => ?_⟩
    obtain ⟨v, hv, hm⟩ := atI_ex rs d0 (by rw [lrs]; exact d1)
    obtain ⟨r, szs, rfl, fr0, hr1, ok⟩ := tab v hm
    have hr2 : G2 r = some (.lst (szs.map fun (n : Nat) => V.int (n : Int))) := by rw [k2 r (np S0 fr0)]; exact hr1
    refine ⟨w, rs, d, _, rfl, rfl, SqL.of (by rw [k2 w (np S0 fw)]; exact hw1), hv, ?_⟩
    have g2 : ∀ b o, H b = some o → b ≠ p → G2 b = some o := fun b o e hb => by rw [k2 b hb]; exact s1 _ _ e
    obtain ⟨z3, zn, zm⟩ := ok
    -- the names
    refine ⟨_, rfl, _, rfl, r, _, rfl, .inl (SqL.of hr2), p, _, _, rfl, S2, by omega, by rw [List.length_map]; omega, by rw [List.length_map]; omega, fun l1 ks G3 e1 n1 o1 hl1 f1 S3 k3 => ⟨_, rfl, ?_⟩⟩
    rw [List.length_map] at e1
    have hr3 : G3 r = some (.lst (szs.map fun (n : Nat) => V.int (n : Int))) := k3 _ _ hr2 (np S0 fr0)
    have g3 : ∀ b o, H b = some o → b ≠ p → G3 b = some o := fun b o e hb => k3 _ _ (g2 b o e hb) hb
    have nl1 : l1 ≠ p := np S2 f1
    refine ⟨l1, r, rfl, ⟨_, SqL.of hl1⟩, ⟨_, SqL.of hr3⟩, comp_by (J := Itz K l1 r) (n := szs.length) (fun i ys G => (∀ b o, G3 b = some o → b ≠ p → G b = some o) ∧ Src G p (k + 6 + 5 * i) ∧ ∃ vss : List (List Str), vss.length = i ∧
      HasAll (fun a => H a = none) G ys (((ks.take i).zip vss).map fieldD) ∧ ∀ (j : Nat) (vs : List Str), vss[j]? = some vs → ValsOk vs ∧ szs[j]? = some vs.length) ⟨fun _ _ e _ => e, S3.mono (by omega), [], rfl, .nil, fun j vs h => by simp at h⟩ ?_ ?_ ?_ ?_ ?_⟩
    · rintro i ys G lt ⟨fr, _⟩
      exact ⟨_, _, _, _, SqL.of (fr _ _ hl1 nl1), SqL.of (fr _ _ hr3 (np S0 fr0)), List.getElem?_eq_getElem (by rw [List.length_map]; omega), List.getElem?_eq_getElem (by rw [List.length_map]; exact lt)⟩
    · rintro ys G ⟨fr, _⟩
      exact ⟨_, _, SqL.of (fr _ _ hl1 nl1), SqL.of (fr _ _ hr3 (np S0 fr0)), .inr (by rw [List.length_map]; exact Nat.le_refl _)⟩
    · rintro i ys G hi ⟨_, _, vss, hv, hh, _⟩
      have := hh.length
      rw [List.length_map, List.length_zip] at this
      exact small _ (by omega)
    · rintro i ys G x G' lt ⟨fr, S, vss, hvl, hh, ho⟩ ⟨p2, x0, y0, rfl, hp2, rfl, hx, hy⟩ N hN
      have hx' := hx _ (SqL.of (fr _ _ hl1 nl1))
      have hy' := hy _ (SqL.of (fr _ _ hr3 (np S0 fr0)))
      rw [List.getElem?_map] at hx' hy'
      obtain ⟨nk, hnk⟩ : ∃ nk, ks[i]? = some nk := ⟨_, List.getElem?_eq_getElem (by omega)⟩
      obtain ⟨sz, hsz⟩ : ∃ sz, szs[i]? = some sz := ⟨_, List.getElem?_eq_getElem lt⟩
      rw [hnk] at hx'
      rw [hsz] at hy'
      cases hx'
      cases hy'
      obtain ⟨z1, z8⟩ := zn sz (List.mem_of_getElem? hsz)
      have np2 : p2 ≠ p := np S hp2
      have s2 := Same.new (o := .tup [V.str nk, V.int (sz : Int)]) hp2
      have S' : Src (upd G p2 (.tup [V.str nk, V.int (sz : Int)])) p (k + 6 + 5 * i) := src S fun o e => s2 _ _ e
      refine pickT (SqT.of upd_same) ?_
      refine ⟨_, rfl, _, rfl, _, rfl, p, _, _, rfl, S', by omega, by omega, by omega, fun l2 vs G4 e2 n2 o2 hl2 f2 S4 k4 => ⟨by show 2 ≤ sizeLine; decide, fun t ht => hN _ _ ⟨fun b o e hb => ?_, ?_, vss ++ [vs], ?_, ?_, ?_⟩⟩⟩
      · exact (Same.new ht) _ _ (k4 _ _ (s2 _ _ (fr b o e hb)) hb)
      · exact (src S4 fun o e => (Same.new ht) _ _ e).mono (by push_cast; omega)
      · rw [List.length_append, hvl]; rfl
      · have bk : ∀ b, (upd G p2 (.tup [V.str nk, V.int (sz : Int)])) b = none → H b = none := fun b e => by
          cases z : H b with
          | none => rfl
          | some o =>
            have hb : b ≠ p := np S' e
            rw [s2 _ _ (fr _ _ (g3 _ _ z hb) hb)] at e
            cases e
        have nt : t ≠ p := np S4 ht
        have ft : H t = none := by
          cases z : H t with
          | none => rfl
          | some o =>
            rw [k4 _ _ (s2 _ _ (fr _ _ (g3 _ _ z nt) nt)) nt] at ht
            cases ht
        rw [zip_snoc hvl hnk, List.map_append]
        have onk := o1 nk (List.mem_of_getElem? hnk)
        refine HasAll.snoc (hh.frame fun b o g e => ⟨g, ?_⟩) (.tup ft upd_same (by show 2 ≤ 1000; decide) (.cons (.str nk (by omega) onk.2.1) (.cons (.lst (bk _ f2) ((Same.new ht) _ _ hl2) (by rw [List.length_map]; omega) (names_has o2)) .nil)))
        have hb : b ≠ p := by obtain ⟨_, _, _, e', _⟩ := S0; rintro rfl; rw [e'] at g; cases g
        exact (Same.new ht) _ _ (k4 _ _ (s2 _ _ e) hb)
      · intro j ws hj
        by_cases lt2 : j < vss.length
        · rw [List.getElem?_append_left lt2] at hj
          exact ho j ws hj
        · rw [List.getElem?_append_right (by omega)] at hj
          have ej : j = i := by
            have := (List.getElem?_eq_some_iff.mp hj).1
            simp only [List.length_cons, List.length_nil] at this
            omega
          subst ej
          rw [hvl, Nat.sub_self] at hj
          cases hj
          have e3 : vs.length = sz := by omega
          exact ⟨⟨by omega, by omega, n2, o2⟩, by rw [hsz, e3]⟩
    · rintro ys G ⟨fr, S, vss, hvl, hh, ho⟩ l hl
      have ek : ks.length = szs.length := by omega
      have et : ks.take szs.length = ks := by rw [← ek, List.take_length]
      rw [et] at hh
      have nl : l ≠ p := np S hl
      have fl : H l = none := by
        cases z : H l with
        | none => rfl
        | some o =>
          rw [fr _ _ (g3 _ _ z nl) nl] at hl
          cases hl
      have lz : (ks.zip vss).length = szs.length := by rw [List.length_zip]; omega
      have lys : ys.length ≤ 1000 := by
        have := hh.length
        rw [List.length_map] at this
        omega
      refine q l (ks.zip vss) _ ⟨by omega, ?_, ?_, ?_⟩ (.lst fl upd_same lys (hh.mono (Same.new hl))) ((src S fun o e => (Same.new hl) _ _ e).mono (by omega)) fun b o e hb => (Same.new hl) _ _ (fr _ _ (g3 _ _ e hb) hb)
      · rw [List.map_fst_zip (by omega)]
        exact n1
      · intro f hf
        obtain ⟨j, hj⟩ := List.getElem?_of_mem hf
        have hj' := List.getElem?_zip_eq_some.mp (show (ks.zip vss)[j]? = some (f.1, f.2) from hj)
        exact ⟨o1 _ (List.mem_of_getElem? hj'.1), (ho j f.2 hj'.2).1⟩
      · unfold manyOf
        rw [many_eq]
        have em : (ks.zip vss).map (·.2.length) = szs := by
          apply List.ext_getElem?
          intro j
          rw [List.getElem?_map]
          cases q1 : (ks.zip vss)[j]? with
          | none =>
            have := List.getElem?_eq_none_iff.mp q1
            exact (List.getElem?_eq_none_iff.mpr (by omega)).symm
          | some f =>
            have hj' := List.getElem?_zip_eq_some.mp (show (ks.zip vss)[j]? = some (f.1, f.2) from q1)
            rw [(ho j f.2 hj'.2).2]
            rfl
        rw [em]
        exact zm
end
end L2.W
-- MOD K5E
namespace L2.W
open PySem My
theorem strsOf_map : ∀ ks : List Str, strsOf (ks.map PyData.str) = ks
  | [] => rfl
  | k :: r => by
    show k :: strsOf (r.map PyData.str) = k :: r
    rw [strsOf_map r]
theorem unlike_of {ks : List Str} (h : ∀ x ∈ ks, nameB x = true) (nd : ks.Nodup) : unlikeB (ks.map PyData.str) = true := by
  unfold unlikeB
  rw [strsOf_map, decide_eq_true nd, Bool.and_true, List.all_eq_true]
  intro d hd
  obtain ⟨x, hx, rfl⟩ := List.mem_map.mp hd
  exact h x hx
theorem fields_ok {fs : List (Str × List Str)} (ok : FieldsOk fs) : fieldsB (.list (fs.map fieldD)) = true ∧ countD (fs.map fieldD) ≤ 8 := by
  constructor
  · show ((fs.map fieldD).all pairB && unlikeB ((fs.map fieldD).map firstD)) = true
    have e1 : (fs.map fieldD).all pairB = true := by
      rw [List.all_eq_true]
      intro d hd
      obtain ⟨f, hf, rfl⟩ := List.mem_map.mp hd
      obtain ⟨_, v⟩ := ok.ok f hf
      show (decide (0 < (f.2.map PyData.str).length) && unlikeB (f.2.map PyData.str)) = true
      rw [List.length_map, decide_eq_true v.ne, unlike_of (fun x hx => (v.ok x hx).1) v.nd]
      rfl
    have e2 : (fs.map fieldD).map firstD = (fs.map (·.1)).map PyData.str := by
      rw [List.map_map, List.map_map]
      rfl
    rw [e1, e2, unlike_of _ ok.nd]
    · rfl
    · intro x hx
      obtain ⟨f, hf, rfl⟩ := List.mem_map.mp hx
      exact (ok.ok f hf).1.1
  · have key : ∀ (l : List (Str × List Str)) (m : Nat), (l.map fieldD).foldl (fun (m : Int) d => m * (sizeD d : Int)) (m : Int) = ((l.foldl (fun m f => m * f.2.length) m : Nat) : Int) := by
      intro l
      induction l with
      | nil => intro m; rfl
      | cons f r ih =>
        intro m
        rw [List.map_cons, List.foldl_cons, List.foldl_cons, ← ih]
        have : sizeD (fieldD f) = f.2.length := by
          show (f.2.map PyData.str).length = _
          rw [List.length_map]
        rw [this, Int.natCast_mul]
    have k1 := key fs 1
    have k2 := ok.many
    unfold countD
    unfold manyOf at k2
    have k3 : ((1 : Nat) : Int) = 1 := rfl
    rw [k3] at k1
    rw [k1]
    omega
/-! ### kinds in their order, as rows of names -/
structure Row where
  name : Str
  fields : List (Str × List Str)
  owner : Option Str
structure RowsOk (rs : List Row) : Prop where
  ne : 0 < rs.length
  le : rs.length ≤ 5
  nd : (rs.map (·.name)).Nodup
  ok : ∀ r ∈ rs, nameOk r.name ∧ FieldsOk r.fields
  own : ∀ (i : Nat) (r : Row) (o : Str), rs[i]? = some r → r.owner = some o → ∃ (j : Nat) (r' : Row), j < i ∧ rs[j]? = some r' ∧ r'.name = o
noncomputable def Ready (done : List Str) (r : Row) : Prop := r.name ∉ done ∧ ∀ o, r.owner = some o → o ∈ done
noncomputable def Greedy (M : Row → Prop) (ord : List Str) : Prop := ∀ (i : Nat) (n : Str), ord[i]? = some n → (∃ r, M r ∧ r.name = n ∧ Ready (ord.take i) r) ∧ ∀ r, M r → Ready (ord.take i) r → ¬ ltS r.name n
theorem ltS_eq {a b : Str} (x : ¬ ltS a b) (y : ¬ ltS b a) : a = b := by
  have h1 : b.cps.toList ≤ a.cps.toList := x
  have h2 : a.cps.toList ≤ b.cps.toList := y
  have e := List.le_antisymm h2 h1
  obtain ⟨⟨la⟩⟩ := a
  obtain ⟨⟨lb⟩⟩ := b
  simp at e
  rw [e]
theorem Greedy.nil {M : Row → Prop} : Greedy M [] := fun i n h => by simp at h
theorem Greedy.snoc {M : Row → Prop} {ord : List Str} {n : Str} (g : Greedy M ord) (h1 : ∃ r, M r ∧ r.name = n ∧ Ready ord r) (h2 : ∀ r, M r → Ready ord r → ¬ ltS r.name n) : Greedy M (ord ++ [n]) := by
  intro i m e
  by_cases hi : i < ord.length
  · have e' : ord[i]? = some m := by rwa [List.getElem?_append_left hi] at e
    have t : (ord ++ [n]).take i = ord.take i := List.take_append_of_le_length (Nat.le_of_lt hi)
    rw [t]
    exact g i m e'
  · have hi2 : i = ord.length := by
      have := (List.getElem?_eq_some_iff.mp e).1
      simp at this
      omega
    subst hi2
    have : n = m := by simpa using e
    subst this
    have t : (ord ++ [n]).take ord.length = ord := by simp
    rw [t]
    exact ⟨h1, h2⟩
theorem Greedy.nodup {M : Row → Prop} {ord : List Str} (g : Greedy M ord) : ord.Nodup := by
  suffices h : ∀ k, (ord.take k).Nodup by
    have := h ord.length
    rwa [List.take_length] at this
  intro k
  induction k with
  | zero => simp
  | succ k ih =>
    cases e : ord[k]? with
    | none => rw [List.take_add_one, e]; simpa using ih
    | some n =>
      obtain ⟨⟨r, _, e1, r1⟩, _⟩ := g k n e
      rw [List.take_add_one, e]
      refine List.nodup_append.mpr ⟨ih, by simp, fun a ha b hb => ?_⟩
      have : b = n := by simpa using hb
      rw [this]
      rintro rfl
      exact r1.1 (e1 ▸ ha)
theorem Greedy.mem {M : Row → Prop} {ord : List Str} (g : Greedy M ord) {n : Str} (h : n ∈ ord) : ∃ r, M r ∧ r.name = n := by
  obtain ⟨i, hi, e⟩ := List.getElem_of_mem h
  obtain ⟨⟨r, m, e1, _⟩, _⟩ := g i n (by rw [List.getElem?_eq_getElem hi, e])
  exact ⟨r, m, e1⟩
theorem sub_len {α : Type} [DecidableEq α] : ∀ {a b : List α}, a.Nodup → (∀ x ∈ a, x ∈ b) → a.length ≤ b.length
  | [], _, _, _ => Nat.zero_le _
  | x :: r, b, nd, h => by
    have hx := h x List.mem_cons_self
    obtain ⟨n1, n2⟩ := List.nodup_cons.mp nd
    have := sub_len (a := r) (b := b.erase x) n2 fun y hy => (List.mem_erase_of_ne (by rintro rfl; exact n1 hy)).mpr (h y (List.mem_cons_of_mem _ hy))
    rw [List.length_erase_of_mem hx] at this
    have := List.length_pos_of_mem hx
    simp
    omega
theorem Greedy.le {rs : List Row} {ord : List Str} (g : Greedy (· ∈ rs) ord) : ord.length ≤ rs.length := by
  have := sub_len (b := rs.map (·.name)) g.nodup fun n hn => by
    obtain ⟨r, m, e⟩ := g.mem hn
    exact List.mem_map.mpr ⟨r, m, e⟩
  rwa [List.length_map] at this
theorem progress {rs : List Row} (ok : RowsOk rs) {ord : List Str} (h : ord.length < rs.length) : ∃ r ∈ rs, Ready ord r := by
  have ex : ∃ (i : Nat) (r : Row), rs[i]? = some r ∧ r.name ∉ ord := Classical.byContradiction fun hn => by
    have := sub_len (b := ord) ok.nd fun n hm => by
      obtain ⟨r, hr, rfl⟩ := List.mem_map.mp hm
      obtain ⟨i, hi, e⟩ := List.getElem_of_mem hr
      exact Classical.byContradiction fun k => hn ⟨i, r, by rw [List.getElem?_eq_getElem hi, e], k⟩
    rw [List.length_map] at this
    omega
  obtain ⟨i, r, hi, hr⟩ := ex
  revert r
  induction i using Nat.strongRecOn with
  | _ i ih =>
    intro r hi hr
    by_cases c : ∀ o, r.owner = some o → o ∈ ord
    · exact ⟨r, List.mem_of_getElem? hi, hr, c⟩
    · have : ∃ o, r.owner = some o ∧ o ∉ ord := Classical.byContradiction fun k => c fun o e => Classical.byContradiction fun m => k ⟨o, e, m⟩
      obtain ⟨o, e, no⟩ := this
      obtain ⟨j, r', hj, e1, e2⟩ := ok.own i r o hi e
      exact ih j hj r' e1 (by rw [e2]; exact no)
theorem RowsOk.one {rs : List Row} (ok : RowsOk rs) {r r' : Row} (h : r ∈ rs) (h' : r' ∈ rs) (e : r.name = r'.name) : r = r' := by
  obtain ⟨i, hi, ei⟩ := List.getElem_of_mem h
  obtain ⟨j, hj, ej⟩ := List.getElem_of_mem h'
  have a : (rs.map (·.name))[i]? = some r.name := by simp [List.getElem?_eq_getElem hi, ei]
  have b : (rs.map (·.name))[j]? = some r.name := by simp [List.getElem?_eq_getElem hj, ej, e]
  have := nodup_at ok.nd a b
  subst this
  rw [← ei, ← ej]
theorem RowsOk.owner {rs : List Row} (ok : RowsOk rs) {r : Row} {o : Str} (h : r ∈ rs) (e : r.owner = some o) : nameOk o ∧ o ≠ r.name ∧ ∃ r' ∈ rs, r'.name = o := by
  obtain ⟨i, hi, ei⟩ := List.getElem_of_mem h
  have gi : rs[i]? = some r := by rw [List.getElem?_eq_getElem hi, ei]
  obtain ⟨j, r', hj, e1, rfl⟩ := ok.own i r o gi e
  have m := List.mem_of_getElem? e1
  refine ⟨(ok.ok r' m).1, fun k => ?_, r', m, rfl⟩
  have a : (rs.map (·.name))[i]? = some r.name := by simp [gi]
  have b : (rs.map (·.name))[j]? = some r.name := by simp [e1, k]
  have := nodup_at ok.nd a b
  omega
end L2.W
-- MOD K5F
namespace L2.W
open PySem My
/-! ### kinds as things: are_kinds, placed_by_owners -/
structure KIsi (K : PySem.W.Frag) (C : Addr) : Prop where
  ha : PySem.W.findIn K (.ref C) "__class__" = some (some (.builtin "object.__class__"))
  hn : PySem.W.specialIn K (.builtin "object.__class__") "__get__" = some (some (.builtin "getset_descriptor.__get__"))
  htk : PySem.W.takesIn K (.builtin "object.__class__") = some true
  hm : PySem.W.mroIn K C (.type "object") = some true
  one : PySem.W.kitOne K (.ref C) (.ref C) = some true
noncomputable def ownV : Option Str → V
  | none => .non
  | some o => .str o
noncomputable def KindO (C : Addr) (H : Hp) (p : Addr) (r : Row) : Prop := ∃ dx l, H p = some (.ins C dx (kflds (.str r.name) (.ref l) (ownV r.owner)))
noncomputable abbrev KL (C : Addr) (H : Hp) : List Addr → List Row → Prop := Paired fun p r => KindO C H p r
theorem paired_get {α β : Type} {R : α → β → Prop} : ∀ {l : List α} {m : List β} {i : Nat} {a : α}, Paired R l m → l[i]? = some a → ∃ b, m[i]? = some b ∧ R a b
  | _, _, _, _, .nil, e => by simp at e
  | _, _, 0, a, .cons r _, e => by
    simp at e
    subst e
    exact ⟨_, rfl, r⟩
  | _, _, i + 1, a, .cons _ t, e => by
    obtain ⟨b, h1, h2⟩ := paired_get (i := i) (a := a) t (by simpa using e)
    exact ⟨b, by simpa using h1, h2⟩
theorem KindO.mono {C : Addr} {H H' : Hp} {p : Addr} {r : Row} (h : KindO C H p r) (k : ∀ b o, H b = some o → (∃ C dx fs, o = .ins C dx fs) → H' b = some o) : KindO C H' p r := by
  obtain ⟨dx, l, e⟩ := h
  exact ⟨dx, l, k _ _ e ⟨_, _, _, rfl⟩⟩
noncomputable def RowsP (rs : List Row) : Prop := ∃ rs0, RowsOk rs0 ∧ rs.Perm rs0
theorem RowsP.nd {rs : List Row} (h : RowsP rs) : (rs.map (·.name)).Nodup := by
  obtain ⟨r0, ok, p⟩ := h
  exact (p.map _).nodup_iff.mpr ok.nd
theorem RowsP.le {rs : List Row} (h : RowsP rs) : 0 < rs.length ∧ rs.length ≤ 5 := by
  obtain ⟨r0, ok, p⟩ := h
  have := p.length_eq
  have := ok.ne
  have := ok.le
  omega
theorem RowsP.ok {rs : List Row} (h : RowsP rs) : ∀ r ∈ rs, nameOk r.name ∧ FieldsOk r.fields := by
  obtain ⟨r0, ok, p⟩ := h
  exact fun r hr => ok.ok r (p.mem_iff.mp hr)
theorem RowsP.one {rs : List Row} (h : RowsP rs) {r r' : Row} (a : r ∈ rs) (b : r' ∈ rs) (e : r.name = r'.name) : r = r' := by
  obtain ⟨r0, ok, p⟩ := h
  exact ok.one (p.mem_iff.mp a) (p.mem_iff.mp b) e
theorem RowsP.progress {rs : List Row} (h : RowsP rs) {ord : List Str} (hl : ord.length < rs.length) : ∃ r ∈ rs, Ready ord r := by
  obtain ⟨r0, ok, p⟩ := h
  obtain ⟨r, hr, q⟩ := L2.W.progress ok (ord := ord) (by rw [← p.length_eq]; exact hl)
  exact ⟨r, p.mem_iff.mpr hr, q⟩
noncomputable def spAreKinds (C : Addr) : Sp := fun vs H Q _ => ∃ (l : Addr) (ps : List Addr) (rs : List Row), vs = [.ref l] ∧ H l = some (.lst (ps.map V.ref)) ∧ KL C H ps rs ∧ RowsP rs ∧ ∀ H', Same H H' → Q (.bl true) H'
section
variable {P : Program} {w : World} {K : PySem.W.Frag} {mg : Str → Option Value} {base : Heap} {CX : CXT}
theorem scAk : FnScope ["things"] ["things"] (defScope sAreKinds) := ⟨rfl, rfl, rfl, by decide +kernel, rfl, by decide +kernel, by decide +kernel⟩
theorem ok_areKinds {f fu fn C fI : Addr} {fd fdu fdn : FuncData} (hC : Calm CX) (T : Tops K mg) (KC : KCls K mg C fI) (KI : KIsi K C) (F : Fun K "are_kinds" "are_kinds" sAreKinds f fd) (DN : Def K mg "is_name" sIsName ["thing"] fn fdn)
    (DU : Def K mg "are_unlike_names" sUnlike ["things"] fu fdu) : FnOk P w K mg base CX 3 f fd ["things"] (spAreKinds C) := by
  have GU : FnOk P w K mg base CX 2 fu fdu ["things"] spUnlike := ok_unlike hC T DU.fn DN
  refine Fun.okC F scAk (fun vs H Q E h => ?_) (fun cdv A outer s H vs Q E hr h => ?_)
  · obtain ⟨l, ps, rs, rfl, _⟩ := h
    rfl
  · obtain ⟨l, ps, rs, rfl, hl, hk, rp, k⟩ := h
    refine ⟨_, pss_cons (ps_if (PW.pt (pw_or (pt_not (pt_val (pe_callB call_isinst rfl T.isinst PyProof.Rows.boot_isinstance (pa_cons (pv 0) (pa_cons (pe_bltn (v := .ty "list") rfl T.list PyProof.Rows.boot_list rfl) pa_nil)))))
        (pw_or1 (pt_cmpR op_eq (pe_callB call_len_seq rfl T.len PySem.boot_len (pa_cons (pv 0) pa_nil)) pe_int (nomark _))))) (pss_one (ps_ret pe_bl)) pss_nil)
      (pss_cons (ps_if (pt_not (pt_val (pe_callB (call_all rfl) rfl T.all PyProof.Rows.boot_all (pa_cons (pe_comp (T := ["thing"]) rfl ScOk.auto (pi_list (pv 0)) (fun _ _ _ _ => pg_name (i := 1) (by decide +kernel : (["things", "thing"] : List Str).Nodup) rfl (Or.inl rfl)) (fun _ _ _ _ => pf_nil)
        (fun _ _ _ _ => pe_callB (call_isinstK (K := K) rfl) rfl T.isinst PyProof.Rows.boot_isinstance (pa_cons (pv 1) (pa_cons (pe_glob (v := .ref C) rfl KC.mgC rfl) pa_nil)))) pa_nil)))) (pss_one (ps_ret pe_bl)) pss_nil)
      (pss_one (ps_ret (pe_call GU hr rfl DU.at_ DU.fn.kp DU.bind .nil (passC hC) (pa_cons (pe_comp (T := ["kind"]) rfl ScOk.auto (pi_list (pv 0)) (fun _ _ _ _ => pg_name (i := 1) (by decide +kernel : (["things", "kind"] : List Str).Nodup) rfl (Or.inl rfl)) (fun _ _ _ _ => pf_nil)
        (fun _ _ _ _ => pe_fldK (K := K) rfl (pv 1) rfl)) pa_nil))))), ?_⟩
    have len : ps.length = rs.length := Paired.length hk
    obtain ⟨l0, l5⟩ := rp.le
    have small : ∀ n : Nat, n ≤ 1000 → n ≤ sizeLine := fun n h => Nat.le_of_lt (small1000 h)
    refine ⟨_, rfl, _, _, _, _, _, rfl, .lst hl, rfl, rfl, _, rfl, iteF ?_⟩
    refine ⟨_, rfl, l, _, rfl, .inl (SqL.of hl), rfl, _, rfl, ?_⟩
    rw [decide_eq_false (show ¬ V.int ((ps.map V.ref).length : Int) = V.int 0 by intro z0; injection z0 with z0; rw [List.length_map] at z0; omega)]
    refine iteF ?_
    refine ⟨_, rfl, l, rfl, ⟨_, SqL.of hl⟩, comp_list (xs := ps.map V.ref) (fun i ys H' => H = H' ∧ ys = (List.replicate i true).map V.bl) ⟨rfl, rfl⟩ (fun i ys H' p => by rw [← p.1]; exact SqL.of hl) (fun i ys H' hi p => ?_) ?_ ?_⟩
    · rw [p.2, List.length_map, List.length_replicate]
      rw [List.length_map] at hi
      exact small _ (by omega)
    · rintro i x ys H' hi ⟨rfl, rfl⟩ N hN
      rw [List.getElem?_map] at hi
      cases ep : ps[i]? with
      | none => rw [ep] at hi; cases hi
      | some p =>
        rw [ep] at hi
        cases hi
        obtain ⟨r, er, dx, lf, e⟩ := paired_get hk ep
        refine pick ?_
        refine ⟨_, rfl, _, _, _, _, _, rfl, .ins e KC.cl KI.ha KI.hn KI.htk KI.hm, rfl, KI.one, hN _ _ ⟨rfl, ?_⟩⟩
        rw [List.replicate_succ', List.map_append]
        rfl
    · rintro ys H' ⟨rfl, rfl⟩ q hq
      rw [List.length_map]
      have s1 : Same H (upd H q (.lst ((List.replicate ps.length true).map V.bl))) := Same.new hq
      refine ⟨q, List.replicate ps.length true, rfl, SqL.of upd_same, _, rfl, ?_⟩
      have ea : (List.replicate ps.length true).all id = true := by simp
      rw [ea]
      refine iteF ?_
      generalize upd H q (.lst ((List.replicate ps.length true).map V.bl)) = H2 at s1 ⊢
      refine ⟨_, rfl, l, rfl, ⟨_, SqL.of (s1 _ _ hl)⟩, comp_list (xs := ps.map V.ref) (fun i ys H' => H2 = H' ∧ ys = ((rs.take i).map (·.name)).map V.str) ⟨rfl, rfl⟩ (fun i ys H' p => by rw [← p.1]; exact SqL.of (s1 _ _ hl)) (fun i ys H' hi p => ?_) ?_ ?_⟩
      · rw [p.2, List.length_map, List.length_map]
        have : (rs.take i).length ≤ rs.length := by rw [List.length_take]; omega
        exact small _ (by omega)
      · rintro i x ys H' hi ⟨rfl, rfl⟩ N hN
        rw [List.getElem?_map] at hi
        cases ep : ps[i]? with
        | none => rw [ep] at hi; cases hi
        | some p =>
          rw [ep] at hi
          cases hi
          obtain ⟨r, er, dx, lf, e⟩ := paired_get hk ep
          refine pick ?_
          refine ⟨_, rfl, p, C, dx, _, _, rfl, s1 _ _ e, KC.cl, KC.nN, kf_name _ _ _, hN _ _ ⟨rfl, ?_⟩⟩
          rw [List.take_add_one, er, List.map_append, List.map_append]
          rfl
      · rintro ys H' ⟨rfl, rfl⟩ q2 hq2
        rw [List.length_map, len, List.take_length]
        refine ⟨_, (rs.map (·.name)).map PyData.str, rfl, .lst trivial upd_same (by rw [List.length_map, List.length_map]; omega) (names_has fun x hx => ?_), fun H4 s4 => ?_⟩
        · obtain ⟨r, hr, rfl⟩ := List.mem_map.mp hx
          exact (rp.ok r hr).1
        · rw [unlike_of (fun x hx => ?_) rp.nd]
          · exact k _ (s1.trans ((Same.new hq2).trans s4))
          · obtain ⟨r, hr, rfl⟩ := List.mem_map.mp hx
            exact (rp.ok r hr).1.1
end
end L2.W
-- MOD K5G
namespace L2.W
open PySem My
/-! ### placed_by_owners -/
noncomputable def lamPos : Pos := ⟨63, 31, 63, 53⟩
noncomputable def lamQ : Str := (("placed_by_owners" : Str) ++ ".<locals>.") ++ "<lambda>"
noncomputable def readyB (done : List Str) (r : Row) : Bool := decide (r.name ∉ done) && (match r.owner with | none => true | some o => decide (o ∈ done))
theorem readyB_iff {done : List Str} {r : Row} : readyB done r = true ↔ Ready done r := by
  unfold readyB Ready
  cases r.owner with
  | none => simp
  | some o => simp
noncomputable abbrev Placed (zs : List (Addr × Row)) : List Str → List (Key × V) → Prop := Paired fun n kv => ∃ q ∈ zs, kv = (Sum.inr n, V.ref q.1) ∧ q.2.name = n
theorem Placed.val {zs : List (Addr × Row)} : ∀ {ord : List Str} {kvs : List (Key × V)}, Placed zs ord kvs → ∀ n : Str, (valV kvs (Sum.inr n)).isSome = decide (n ∈ ord)
  | _, _, .nil, n => by simp [valV]
  | m :: ord, kv :: kvs, .cons r t, n => by
    obtain ⟨q, _, rfl, e⟩ := r
    by_cases c : m = n
    · rw [valV_pos (by rw [c])]
      simp [c]
    · rw [valV_neg (by intro z; exact c (Sum.inr.inj z)), Placed.val t n]
      simp [Ne.symm c]
theorem Placed.get {zs : List (Addr × Row)} : ∀ {ord : List Str} {kvs : List (Key × V)}, Placed zs ord kvs → ∀ n : Str, n ∈ ord → ∃ q ∈ zs, valV kvs (Sum.inr n) = some (V.ref q.1) ∧ q.2.name = n
  | _, _, .nil, n, h => by cases h
  | m :: ord, kv :: kvs, .cons r t, n, h => by
    obtain ⟨q, hq, rfl, e⟩ := r
    by_cases c : m = n
    · exact ⟨q, hq, valV_pos (by rw [c]), e.trans c⟩
    · rcases List.mem_cons.mp h with h | h
      · exact absurd h.symm c
      · obtain ⟨q', h1, h2, h3⟩ := Placed.get t n h
        exact ⟨q', h1, by rw [valV_neg (by intro z; exact c (Sum.inr.inj z))]; exact h2, h3⟩
theorem Placed.keys {zs : List (Addr × Row)} : ∀ {ord : List Str} {kvs : List (Key × V)}, Placed zs ord kvs → kvs.map (fun kv => kV kv.1) = ord.map V.str
  | _, _, .nil => rfl
  | m :: ord, kv :: kvs, .cons r t => by
    obtain ⟨q, hq, rfl, e⟩ := r
    rw [List.map_cons, List.map_cons, Placed.keys t]
    rfl
theorem paired_snoc {α β : Type} {R : α → β → Prop} : ∀ {l : List α} {m : List β} {a : α} {b : β}, Paired R l m → R a b → Paired R (l ++ [a]) (m ++ [b])
  | _, _, _, _, .nil, r => .cons r .nil
  | _, _, _, _, .cons r t, q => .cons r (paired_snoc t q)
theorem putK_new {kvs : List (Key × V)} {k : Key} {v : V} (h : (valV kvs k).isSome = false) : putK kvs k v = kvs ++ [(k, v)] := by
  unfold putK
  rw [valV_any, h]
  rfl
structure Zs (C : Addr) (H : Hp) (zs : List (Addr × Row)) : Prop where
  at_ : ∀ q ∈ zs, KindO C H q.1 q.2
  nd : (zs.map fun q => q.2.name).Nodup
  le : zs.length ≤ 50
theorem Zs.mono {C : Addr} {H H' : Hp} {zs : List (Addr × Row)} (z : Zs C H zs) (k : ∀ b o, H b = some o → (∃ C dx fs, o = .ins C dx fs) → H' b = some o) : Zs C H' zs := ⟨fun q hq => (z.at_ q hq).mono k, z.nd, z.le⟩
noncomputable def spPlaced (C Pt : Addr) : Sp := fun vs H Q _ => ∃ (l : Addr) (zs : List (Addr × Row)), vs = [.ref l] ∧ H l = some (.lst (zs.map fun q => V.ref q.1)) ∧ Zs C H zs ∧ TabOk H Pt lamPos lamQ ∧
  ∀ (d : Addr) (ord : List Str) (kvs : List (Key × V)) (H' : Hp), H d = none → H' d = some (.dK kvs) → Placed zs ord kvs → Greedy (· ∈ zs.map (·.2)) ord → (∀ r ∈ zs.map (·.2), ¬ Ready ord r) → TabOk H' Pt lamPos lamQ → GrownBut Pt H H' → Q (.ref d) H'
theorem _root_.L2.GrownBut.trans {P : Addr} {a b c : Hp} (x : GrownBut P a b) (y : GrownBut P b c) : GrownBut P a c := fun p o e n => y p o (x p o e n) n
theorem _root_.L2.GrownBut.same {P : Addr} {a b : Hp} (x : Same a b) : GrownBut P a b := fun p o e _ => x p o e
theorem _root_.L2.TabOk.same {H H' : Hp} {P : Addr} {pos : Pos} {q : Str} (T : TabOk H P pos q) (k : Same H H') : TabOk H' P pos q := T.stay k
theorem _root_.L2.TabOk.upd {H : Hp} {P : Addr} {pos : Pos} {q : Str} {p : Addr} {u o : HO} (T : TabOk H P pos q) (hp : H p = some u) (h1 : ∀ ps, u ≠ .tbl ps) (h2 : ∀ f, u ≠ .ext f) : TabOk (upd H p o) P pos q :=
  T.but hp h1 h2 fun b x e nb => by rw [upd_ne nb]; exact e
theorem filter_snoc {zs : List (Addr × Row)} {i : Nat} {q : Addr × Row} (p : Addr × Row → Bool) (h : zs[i]? = some q) : (zs.take (i + 1)).filter p = if p q = true then (zs.take i).filter p ++ [q] else (zs.take i).filter p := by
  rw [List.take_add_one, h, List.filter_append]
  cases e : p q <;> simp [e]
section
variable {P : Program} {w : World} {K : PySem.W.Frag} {mg : Str → Option Value} {base : Heap} {CX : CXT}
theorem scPl : FnScope ["kinds", "placed", "ready", "first"] ["kinds"] (defScope sPlaced) := ⟨rfl, rfl, rfl, by decide +kernel, rfl, by decide +kernel, by decide +kernel⟩
theorem ok_placed {f C fI c Pt : Addr} {fd : FuncData} (hC : Calm CX) (T : Tops K mg) (KC : KCls K mg C fI) (LT : LamTxt K mg base c Pt) (F : FunL K "placed_by_owners" "placed_by_owners" sPlaced f fd c) : FnOk P w K mg base CX 4 f fd ["kinds"] (spPlaced C Pt) := by
  refine FunL.okC F scPl (fun vs H Q E h => ?_) (fun A outer s H vs Q E hr h => ?_)
  · obtain ⟨l, zs, rfl, _⟩ := h
    rfl
  · obtain ⟨l, zs, rfl, hl, hz, hT, k⟩ := h
    have nd := scPl.nd
    have hr2 := hr.mono (show 2 ≤ 3 by decide)
    have hu := hu_of hr
    refine ⟨_, pss_cons (ps_set (i := 1) nd rfl (Or.inr rfl) pe_dnewK)
      (pss_cons (ps_setComp (T := ["kind"]) (i := 2) rfl ScOk.auto (pi_list (pv 0)) (fun _ _ _ _ => pg_name (i := 4) (by decide +kernel : (["kinds", "placed", "ready", "first", "kind"] : List Str).Nodup) rfl (Or.inl rfl))
        (fun _ _ _ _ => pf_one (pt_cmp (pc_isN (pe_fldK (K := K) rfl (pv 4) rfl)))) (fun _ _ _ _ => pv 4) nd rfl rfl rfl)
      (pss_cons (ps_while PassesOwn.never (pt_truth (pv 2) (fun _ => rfl))
        (pss_cons (ps_set (i := 3) nd rfl (Or.inl rfl) (pe_minKey LT rfl hr2 rfl rfl T.min (pa_cons (pv 2) pa_nil) (by exact ⟨rfl, rfl, rfl, by decide +kernel, rfl⟩)))
        (pss_cons (ps_dput hu (pv 1) (pe_fld (pv 3) rfl) (pv 3) rfl)
        (pss_one (ps_setComp (T := ["kind"]) (i := 2) rfl ScOk.auto (pi_list (pv 0)) (fun _ _ _ _ => pg_name (i := 4) (by decide +kernel : (["kinds", "placed", "ready", "first", "kind"] : List Str).Nodup) rfl (Or.inl rfl))
          (fun _ _ _ _ => pf_one (PW.pt (pw_and (pt_cmp (pc_dnotin hu (pe_fldK (K := K) rfl (pv 4) rfl) (pv 1))) (pw_and1 (PW.pt (pw_or (pt_cmp (pc_isN (pe_fldK (K := K) rfl (pv 4) rfl))) (pw_or1 (pt_cmp (pc_din hu (pe_fldK (K := K) rfl (pv 4) rfl) (pv 1)))))))))) (fun _ _ _ _ => pv 4) nd rfl rfl rfl)))))
      (pss_one (ps_ret (pv 1))))), ?_⟩
    have small : ∀ n : Nat, n ≤ 1000 → n ≤ sizeLine := fun n h => Nat.le_of_lt (small1000 h)
    have flen : ∀ (p : Addr × Row → Bool) (i : Nat), ((zs.take i).filter p).length ≤ 50 := fun p i => by
      have h1 := List.length_filter_le p (zs.take i)
      have h2 : (zs.take i).length ≤ zs.length := by rw [List.length_take]; omega
      have := hz.le
      omega
    intro d hd
    have g0 : Same H (upd H d (.dK [])) := Same.new hd
    have e0 : (upd H d (.dK [])) d = some (.dK []) := upd_same
    generalize upd H d (.dK []) = H0 at g0 e0 ⊢
    refine ⟨_, rfl, l, rfl, ⟨_, SqL.of (g0 _ _ hl)⟩, comp_list (xs := zs.map fun q => V.ref q.1) (fun i ys H' => H0 = H' ∧ ys = ((zs.take i).filter (fun q => readyB [] q.2)).map fun q => V.ref q.1) ⟨rfl, rfl⟩ (fun i ys H' p => by rw [← p.1]; exact SqL.of (g0 _ _ hl)) (fun i ys H' hi p => ?_) ?_ ?_⟩
    · rw [p.2, List.length_map]
      exact small _ (Nat.le_trans (flen _ i) (by decide))
    · rintro i x ys H' hi ⟨rfl, rfl⟩ N hN
      rw [List.getElem?_map] at hi
      cases ep : zs[i]? with
      | none => rw [ep] at hi; cases hi
      | some q =>
        rw [ep] at hi
        cases hi
        obtain ⟨dx, lf, e⟩ := hz.at_ q (List.mem_of_getElem? ep)
        refine ⟨_, rfl, q.1, C, dx, _, _, rfl, g0 _ _ e, KC.cl, KC.nO, kf_owner _ _ _, _, rfl, ?_⟩
        cases eo : q.2.owner with
        | none =>
          refine iteT ⟨_, rfl, hN _ _ ⟨rfl, ?_⟩⟩
          rw [filter_snoc _ ep, if_pos (by simp [readyB, eo]), List.map_append]
          rfl
        | some o =>
          refine iteF (hN _ _ ⟨rfl, ?_⟩)
          rw [filter_snoc _ ep, if_neg (by simp [readyB, eo])]
    · rintro ys H' ⟨rfl, rfl⟩ lr hlr
      rw [List.length_map, List.take_length]
      have g1 : Same H (upd H0 lr (.lst ((zs.filter fun q => readyB [] q.2).map fun q => V.ref q.1))) := g0.trans (Same.new hlr)
      have e1 := (Same.new (o := .lst ((zs.filter fun q => readyB [] q.2).map fun q => V.ref q.1)) hlr) _ _ e0
      refine ⟨fun m σ H2 => ∃ ord kvs lr x, m = zs.length - ord.length ∧ σ = [some (.ref l), some (.ref d), some (.ref lr), x] ∧ H2 d = some (.dK kvs) ∧ Placed zs ord kvs ∧ Greedy (· ∈ zs.map (·.2)) ord ∧
        H2 lr = some (.lst ((zs.filter fun q => readyB ord q.2).map fun q => V.ref q.1)) ∧ TabOk H2 Pt lamPos lamQ ∧ GrownBut Pt H H2, ⟨_, [], [], lr, none, rfl, rfl, e1, .nil, .nil, upd_same, hT.same g1, .same g1⟩, ?_⟩
      clear g1 e1 hlr e0 g0
      rintro m σ H2 ⟨ord, kvs, lr, x, rfl, rfl, hd2, hpl, hgr, hlr, hT2, hG⟩
      have hk2 : ∀ q ∈ zs, ∃ dx lf, H2 q.1 = some (.ins C dx (kflds (.str q.2.name) (.ref lf) (ownV q.2.owner))) := fun q hq => by
        obtain ⟨dx, lf, e⟩ := hz.at_ q hq
        exact ⟨dx, lf, hG _ _ e (hT.ne e fun _ z => nomatch z)⟩
      refine ⟨_, rfl, _, .inl ⟨_, SqL.of hlr, rfl⟩, ?_⟩
      generalize ets : (zs.filter fun q => readyB ord q.2) = ts at hlr ⊢
      have mts : ∀ q, q ∈ ts ↔ q ∈ zs ∧ Ready ord q.2 := fun q => by rw [← ets, List.mem_filter, readyB_iff]
      by_cases c : ts = []
      · subst c
        refine iteF ⟨_, rfl, k d ord kvs H2 hd hd2 hpl hgr (fun r hr z => ?_) hT2 hG⟩
        obtain ⟨q, hq, rfl⟩ := List.mem_map.mp hr
        have := (mts q).mpr ⟨hq, z⟩
        cases this
      · have pos : 0 < ts.length := List.length_pos_iff.mpr c
        rw [show (!(ts.map fun q => V.ref q.1).isEmpty) = true by cases ts with | nil => exact absurd rfl c | cons _ _ => rfl]
        refine iteT ?_
        refine ⟨fun σ' H' => ∃ m', m' < zs.length - ord.length ∧ ∃ ord kvs lr x, m' = zs.length - ord.length ∧ σ' = [some (.ref l), some (.ref d), some (.ref lr), x] ∧ H' d = some (.dK kvs) ∧ Placed zs ord kvs ∧ Greedy (· ∈ zs.map (·.2)) ord ∧
          H' lr = some (.lst ((zs.filter fun q => readyB ord q.2).map fun q => V.ref q.1)) ∧ TabOk H' Pt lamPos lamQ ∧ GrownBut Pt H H', fun _ _ h => h, ?_⟩
        refine ⟨_, rfl, lr, _, ts.map (·.2.name), rfl, SqL.of hlr, (by rw [List.length_map]; exact pos), hT2, (by rw [List.length_map, List.length_map]), fun i v kx hi hk => ?_, fun i v kx H3 hi hk hbest hT3 hG3 => ?_⟩
        · rw [List.getElem?_map] at hi hk
          cases ep : ts[i]? with
          | none => rw [ep] at hi; cases hi
          | some q =>
            rw [ep] at hi hk
            cases hi
            cases hk
            obtain ⟨dx, lf, e⟩ := hk2 q ((mts q).mp (List.mem_of_getElem? ep)).1
            exact ⟨q.1, C, dx, _, rfl, e, KC.cl, KC.nN, kf_name _ _ _⟩
        · rw [List.getElem?_map] at hi hk
          cases ep : ts[i]? with
          | none => rw [ep] at hi; cases hi
          | some q =>
            rw [ep] at hi hk
            cases hi
            cases hk
            obtain ⟨hq, hrd⟩ := (mts q).mp (List.mem_of_getElem? ep)
            have hG3' := hG.trans hG3
            have hk3 : ∀ q ∈ zs, ∃ dx lf, H3 q.1 = some (.ins C dx (kflds (.str q.2.name) (.ref lf) (ownV q.2.owner))) := fun q hq => by
              obtain ⟨dx, lf, e⟩ := hz.at_ q hq
              exact ⟨dx, lf, hG3' _ _ e (hT.ne e fun _ z => nomatch z)⟩
            obtain ⟨dx, lf, e⟩ := hk3 q hq
            have hd3 : H3 d = some (.dK kvs) := hG3 _ _ hd2 (hT2.ne hd2 fun _ z => nomatch z)
            have kl : kvs.length = ord.length := (Paired.length hpl).symm
            have ol : ord.length ≤ zs.length := by have := hgr.le; rwa [List.length_map] at this
            refine ⟨_, rfl, _, rfl, _, rfl, q.1, C, dx, _, _, rfl, e, KC.cl, KC.nN, kf_name _ _ _, d, _, rfl, DPut.k (k := Sum.inr q.2.name) hd3 (Nat.lt_of_le_of_lt (Nat.le_trans (Nat.le_of_eq kl) (Nat.le_trans ol hz.le)) (small1000 (by decide))), ?_⟩
            have vn : (valV kvs (Sum.inr q.2.name)).isSome = false := by rw [hpl.val]; simpa using hrd.1
            rw [putK_new vn]
            have hpl' : Placed zs (ord ++ [q.2.name]) (kvs ++ [(Sum.inr q.2.name, V.ref q.1)]) := paired_snoc hpl ⟨q, hq, rfl, rfl⟩
            have hgr' : Greedy (· ∈ zs.map (·.2)) (ord ++ [q.2.name]) := hgr.snoc ⟨q.2, List.mem_map.mpr ⟨q, hq, rfl⟩, rfl, hrd⟩ fun r hr hrr => by
              obtain ⟨q', hq', rfl⟩ := List.mem_map.mp hr
              exact hbest _ (List.mem_map.mpr ⟨q', (mts q').mpr ⟨hq', hrr⟩, rfl⟩)
            have ol' : (ord ++ [q.2.name]).length ≤ zs.length := by have := hgr'.le; rwa [List.length_map] at this
            have lt : zs.length - (ord ++ [q.2.name]).length < zs.length - ord.length := by
              rw [List.length_append] at ol' ⊢
              simp at ol' ⊢
              omega
            generalize ord ++ [q.2.name] = ord' at hpl' hgr' lt
            have hd4 : (upd H3 d (.dK (kvs ++ [(Sum.inr q.2.name, V.ref q.1)]))) d = some (.dK (kvs ++ [(Sum.inr q.2.name, V.ref q.1)])) := upd_same
            have hT4 : TabOk (upd H3 d (.dK (kvs ++ [(Sum.inr q.2.name, V.ref q.1)]))) Pt lamPos lamQ := hT3.upd hd3 (fun _ z => nomatch z) (fun _ z => nomatch z)
            have hG4 : GrownBut Pt H (upd H3 d (.dK (kvs ++ [(Sum.inr q.2.name, V.ref q.1)]))) := fun b o e n => by
              rw [upd_ne (ne_of_none e hd)]
              exact hG3' b o e n
            generalize upd H3 d (.dK (kvs ++ [(Sum.inr q.2.name, V.ref q.1)])) = H4 at hd4 hT4 hG4 ⊢
            generalize kvs ++ [(Sum.inr q.2.name, V.ref q.1)] = kvs' at hd4 hpl'
            clear hk2 hk3
            have hk4 : ∀ q ∈ zs, ∃ dx lf, H4 q.1 = some (.ins C dx (kflds (.str q.2.name) (.ref lf) (ownV q.2.owner))) := fun q hq => by
              obtain ⟨dx, lf, e⟩ := hz.at_ q hq
              exact ⟨dx, lf, hG4 _ _ e (hT.ne e fun _ z => nomatch z)⟩
            have hl4 := hG4 _ _ hl (hT.ne hl fun _ z => nomatch z)
            refine ⟨_, rfl, l, rfl, ⟨_, SqL.of hl4⟩, comp_list (xs := zs.map fun q => V.ref q.1) (fun i ys H' => H4 = H' ∧ ys = ((zs.take i).filter (fun q => readyB ord' q.2)).map fun q => V.ref q.1) ⟨rfl, rfl⟩ (fun i ys H' p => by rw [← p.1]; exact SqL.of hl4) (fun i ys H' hi p => ?_) ?_ ?_⟩
            · rw [p.2, List.length_map]
              exact small _ (Nat.le_trans (flen _ i) (by decide))
            · rintro i x ys H' hi ⟨rfl, rfl⟩ N hN
              rw [List.getElem?_map] at hi
              cases ep : zs[i]? with
              | none => rw [ep] at hi; cases hi
              | some q =>
                rw [ep] at hi
                cases hi
                obtain ⟨dx, lf, e⟩ := hk4 q (List.mem_of_getElem? ep)
                have no : readyB ord' q.2 = false → ((zs.take i).filter (fun q => readyB ord' q.2)).map (fun q => V.ref q.1) = ((zs.take (i + 1)).filter (fun q => readyB ord' q.2)).map fun q => V.ref q.1 := fun z => by rw [filter_snoc _ ep, if_neg (by rw [z]; simp)]
                have ye : readyB ord' q.2 = true → ((zs.take i).filter (fun q => readyB ord' q.2)).map (fun q => V.ref q.1) ++ [V.ref q.1] = ((zs.take (i + 1)).filter (fun q => readyB ord' q.2)).map fun q => V.ref q.1 := fun z => by rw [filter_snoc _ ep, if_pos z, List.map_append]; rfl
                refine ⟨_, rfl, q.1, C, dx, _, _, rfl, e, KC.cl, KC.nN, kf_name _ _ _, _, rfl, d, _, rfl, DGet.k (k := Sum.inr q.2.name) hd4, _, rfl, ?_⟩
                rw [hpl'.val]
                by_cases c1 : q.2.name ∈ ord'
                · rw [decide_eq_true c1]
                  refine iteF (iteF (hN _ _ ⟨rfl, no ?_⟩))
                  simp [readyB, c1]
                · rw [decide_eq_false c1]
                  refine iteT ⟨_, rfl, q.1, C, dx, _, _, rfl, e, KC.cl, KC.nO, kf_owner _ _ _, _, rfl, ?_⟩
                  cases eo : q.2.owner with
                  | none =>
                    refine iteT (iteT ⟨_, rfl, hN _ _ ⟨rfl, ye ?_⟩⟩)
                    simp [readyB, c1, eo]
                  | some o =>
                    have ev : (kflds (.str q.2.name) (.ref lf) (ownV q.2.owner)).lookup ("owner" : Str) = some (.str o) := by rw [kf_owner, eo]; rfl
                    refine iteF ⟨_, rfl, q.1, C, dx, _, _, rfl, e, KC.cl, KC.nO, ev, _, rfl, d, _, rfl, DGet.k (k := Sum.inr o) hd4, _, rfl, ?_⟩
                    rw [hpl'.val]
                    by_cases c2 : o ∈ ord'
                    · rw [decide_eq_true c2]
                      refine iteT ⟨_, rfl, hN _ _ ⟨rfl, ye ?_⟩⟩
                      simp [readyB, c1, eo, c2]
                    · rw [decide_eq_false c2]
                      refine iteF (hN _ _ ⟨rfl, no ?_⟩)
                      simp [readyB, c1, eo, c2]
            · rintro ys H' ⟨rfl, rfl⟩ lr' hlr'
              rw [List.length_map, List.take_length]
              exact ⟨_, lt, ord', kvs', lr', _, rfl, rfl, (Same.new hlr') _ _ hd4, hpl', hgr', upd_same, hT4.same (Same.new hlr'), hG4.trans (.same (Same.new hlr'))⟩
end
end L2.W
-- MOD K5H
namespace L2.W
open PySem My
/-! ### the class Kinds -/
theorem call_len_dict {X : Cx} : CallR X (.builtin "len") (fun vs H Q => ∃ d kvs, vs = [.ref d] ∧ Rd H d (.dK kvs) ∧ Q (.int (kvs.length : Nat)) H) := by
  intro pins s σ H vs us Q I rv h
  obtain ⟨d, kvs, rfl, rd, q⟩ := h
  obtain ⟨u, rfl, ru⟩ := v1 rv
  cases (show u = Value.ref d from ru)
  exact d_len I rd fun t s' I' => ⟨.int _, H, I', ⟨t, rfl⟩, q⟩
structure KsCls (K : PySem.W.Frag) (mg : Str → Option Value) (CK fI fOr fOf fOw : Addr) : Prop where
  cl : Cls K CK
  nB : NoAttr K CK "by_name"
  mgC : mg "Kinds" = some (.ref CK)
  mkd : Mk K CK fI
  mOr : Meth K CK "order" fOr
  mOf : Meth K CK "of" fOf

noncomputable def ksF (d : V) : List (Str × V) := putF "by_name" d []
theorem ks_by (d : V) : (ksF d).lookup ("by_name" : Str) = some d := by
  unfold ksF
  rw [lookup_putF, if_pos rfl]
theorem ks_no {m : Str} (d : V) (h : ¬ m = "by_name") : (ksF d).lookup m = none := by
  unfold ksF
  rw [lookup_putF, if_neg h]
  rfl
noncomputable def KindsAt (CK : Addr) (H : Hp) (p d : Addr) (kvs : List (Key × V)) : Prop := (∃ dx, H p = some (.ins CK dx (ksF (.ref d)))) ∧ Rd H d (.dK kvs)
theorem KindsAt.mono {CK : Addr} {H H' : Hp} {p d : Addr} {kvs : List (Key × V)} (h : KindsAt CK H p d kvs) (k : ∀ b o, H b = some o → (∃ C dx fs, o = .ins C dx fs) ∨ (∃ kvs, o = .dK kvs) ∨ (∃ x u, o = .frz x u) → H' b = some o) : KindsAt CK H' p d kvs := by
  obtain ⟨⟨dx, e⟩, r⟩ := h
  refine ⟨⟨dx, k _ _ e (.inl ⟨_, _, _, rfl⟩)⟩, ?_⟩
  rcases r with r | ⟨o, r⟩
  · exact .inl (k _ _ r (.inr (.inl ⟨_, rfl⟩)))
  · exact .inr ⟨o, k _ _ r (.inr (.inr ⟨_, _, rfl⟩))⟩
noncomputable def spInitKs (CK C Pt : Addr) : Sp := fun vs H Q _ => ∃ (p dx l : Addr) (zs : List (Addr × Row)), vs = [.ref p, .ref l] ∧ H p = some (.ins CK dx []) ∧ H l = some (.lst (zs.map fun q => V.ref q.1)) ∧ Zs C H zs ∧ RowsP (zs.map (·.2)) ∧ TabOk H Pt lamPos lamQ ∧
  ∀ (d : Addr) (ord : List Str) (kvs : List (Key × V)) (H' : Hp), H' p = some (.ins CK dx (ksF (.ref d))) → H d = none → H' d = some (.dK kvs) → Placed zs ord kvs → Greedy (· ∈ zs.map (·.2)) ord → ord.length = zs.length → TabOk H' Pt lamPos lamQ →
    (∀ b o, H b = some o → b ≠ p → b ≠ Pt → H' b = some o) → Q .non H'
noncomputable def spOrder (CK : Addr) : Sp := fun vs H Q _ => ∃ (p d : Addr) (kvs : List (Key × V)), vs = [.ref p] ∧ KindsAt CK H p d kvs ∧ ∀ q, H q = none → Q (.ref q) (upd H q (.lst (kvs.map fun kv => kV kv.1)))
noncomputable def spOf (CK : Addr) : Sp := fun vs H Q _ => ∃ (p d : Addr) (kvs : List (Key × V)) (n : Str) (v : V), vs = [.ref p, .str n] ∧ nameOk n ∧ KindsAt CK H p d kvs ∧ valV kvs (Sum.inr n) = some v ∧ ∀ H', Same H H' → Q v H'
section
variable {P : Program} {w : World} {K : PySem.W.Frag} {mg : Str → Option Value} {base : Heap} {CX : CXT}
theorem scKs : FnScope ["self", "kinds", "placed"] ["self", "kinds"] (defScope sInitKs) := ⟨rfl, rfl, rfl, by decide +kernel, rfl, by decide +kernel, by decide +kernel⟩
theorem ok_initKs {f fI fa fp fu fn C CK fIk fOr fOf fOw c Pt : Addr} {fd fda fdp fdu fdn : FuncData} (hC : Calm CX) (T : Tops K mg) (KC : KCls K mg C fI) (KI : KIsi K C) (KS : KsCls K mg CK fIk fOr fOf fOw) (LT : LamTxt K mg base c Pt) (F : Fun K "__init__" "Kinds.__init__" sInitKs f fd)
    (DN : Def K mg "is_name" sIsName ["thing"] fn fdn) (DU : Def K mg "are_unlike_names" sUnlike ["things"] fu fdu) (DA : Def K mg "are_kinds" sAreKinds ["things"] fa fda) (DP : FunL K "placed_by_owners" "placed_by_owners" sPlaced fp fdp c) (DPa : mg "placed_by_owners" = some (.ref fp)) (DPb : Binds K fdp ["kinds"] []) :
    FnOk P w K mg base CX 5 f fd ["self", "kinds"] (spInitKs CK C Pt) := by
  have GA : FnOk P w K mg base CX 3 fa fda ["things"] (spAreKinds C) := ok_areKinds hC T KC KI DA.fn DN DU
  have GP : FnOk P w K mg base CX 4 fp fdp ["kinds"] (spPlaced C Pt) := ok_placed hC T KC LT DP
  refine Fun.okC F scKs (fun vs H Q E h => ?_) (fun cdv A outer s H vs Q E hr h => ?_)
  · obtain ⟨p, dx, l, zs, rfl, _⟩ := h
    rfl
  · obtain ⟨p, dx, l, zs, rfl, hp, hl, hz, rp, hT, k⟩ := h
    have nd := scKs.nd
    have hr3 := hr.mono (show 3 ≤ 4 by decide)
    refine ⟨_, pss_cons (ps_if (pt_not (pt_val (pe_call GA hr3 rfl DA.at_ DA.fn.kp DA.bind .nil (passC hC) (pa_cons (pv 1) pa_nil)))) pss_never pss_nil)
      (pss_cons (ps_set (i := 2) nd rfl (Or.inl rfl) (pe_call GP hr rfl DPa DP.kp DPb .nil (passC hC) (pa_cons (pv 1) pa_nil)))
      (pss_cons (ps_if (pt_cmpR op_lt (pe_callB call_len_dict rfl T.len PySem.boot_len (pa_cons (pv 2) pa_nil)) (pe_callB call_len_seq rfl T.len PySem.boot_len (pa_cons (pv 1) pa_nil)) (nomark _)) pss_never pss_nil)
      (pss_one (ps_fld (pv 0) (pv 2) rfl)))), ?_⟩
    have kl : KL C H (zs.map (·.1)) (zs.map (·.2)) := by
      have := hz.at_
      clear hl hz rp k
      induction zs with
      | nil => exact .nil
      | cons q t ih => exact .cons (this q List.mem_cons_self) (ih fun q' h => this q' (List.mem_cons_of_mem _ h))
    refine ⟨_, rfl, l, zs.map (·.1), zs.map (·.2), rfl, (by rw [List.map_map]; exact hl), kl, rp, fun H1 s1 => ⟨_, rfl, iteF ?_⟩⟩
    refine ⟨_, rfl, l, zs, rfl, s1 _ _ hl, hz.mono fun b o e _ => s1 _ _ e, hT.same s1, fun d ord kvs H2 hd hd2 hpl hgr hno hT2 hG => ?_⟩
    have nT : ∀ {b : Addr} {o : HO}, H b = some o → (∀ ps, o ≠ .tbl ps) → H2 b = some o := fun e h => hG _ _ (s1 _ _ e) (hT.ne e h)
    have full : ord.length = zs.length := by
      have a := hgr.le
      rw [List.length_map] at a
      refine Nat.le_antisymm a (Nat.le_of_not_lt fun lt => ?_)
      obtain ⟨r, hr, q⟩ := rp.progress (ord := ord) (by rw [List.length_map]; exact lt)
      exact hno r hr q
    have hp2 := nT hp fun _ z => nomatch z
    have hl2 := nT hl fun _ z => nomatch z
    refine ⟨_, rfl, d, kvs, rfl, .inl hd2, _, rfl, l, _, rfl, .inl (SqL.of hl2), _, _, rfl, rfl, _, rfl, ?_⟩
    have kvl : kvs.length = ord.length := (Paired.length hpl).symm
    refine ite2 (fun h => absurd (of_decide_eq_true h) (by rw [List.length_map]; omega)) (fun _ => ?_)
    refine ⟨_, rfl, _, rfl, p, CK, dx, [], rfl, hp2, KS.cl, KS.nB, (by show 0 < 1000; decide), ?_⟩
    have dp : d ≠ p := Ne.symm (ne_of_none (s1 _ _ hp) hd)
    refine k d ord kvs _ upd_same ?_ (by rw [upd_ne dp]; exact hd2) hpl hgr full (hT2.upd hp2 (fun _ z => nomatch z) (fun _ z => nomatch z)) fun b o e n1 n2 => ?_
    · exact s1.free hd
    · rw [upd_ne n1]
      exact hG _ _ (s1 _ _ e) n2
theorem scOr : FnScope ["self"] ["self"] (defScope sOrder) := ⟨rfl, rfl, rfl, by decide +kernel, rfl, by decide +kernel, by decide +kernel⟩
theorem ok_order {f CK fIk fOr fOf fOw : Addr} {fd : FuncData} (T : Tops K mg) (KS : KsCls K mg CK fIk fOr fOf fOw) (F : Fun K "order" "Kinds.order" sOrder f fd) : FnOk P w K mg base CX 1 f fd ["self"] (spOrder CK) := by
  refine Fun.okC F scOr (fun vs H Q E h => ?_) (fun cdv A outer s H vs Q E hr h => ?_)
  · obtain ⟨p, d, kvs, rfl, _⟩ := h
    rfl
  · obtain ⟨p, d, kvs, rfl, ⟨⟨dx, hp⟩, rd⟩, k⟩ := h
    refine ⟨_, pss_one (ps_ret (pe_callTy call_list_dict rfl T.list PyProof.Rows.boot_list (pa_cons (pe_fld (pv 0) rfl) pa_nil))), ?_⟩
    exact ⟨_, rfl, p, CK, dx, _, _, rfl, hp, KS.cl, KS.nB, ks_by _, d, kvs, rfl, rd, rfl, fun q hq => k q hq⟩
theorem scOf : FnScope ["self", "name"] ["self", "name"] (defScope sOf) := ⟨rfl, rfl, rfl, by decide +kernel, rfl, by decide +kernel, by decide +kernel⟩
theorem rd_same {H H' : Hp} {d : Addr} {u : HO} (s : Same H H') (r : Rd H d u) : Rd H' d u := by
  rcases r with r | ⟨o, r⟩
  · exact .inl (s _ _ r)
  · exact .inr ⟨o, s _ _ r⟩
theorem ok_of {f fn CK fIk fOr fOf fOw : Addr} {fd fdn : FuncData} (hC : Calm CX) (T : Tops K mg) (KS : KsCls K mg CK fIk fOr fOf fOw) (F : Fun K "of" "Kinds.of" sOf f fd) (DN : Def K mg "is_name" sIsName ["thing"] fn fdn) : FnOk P w K mg base CX 2 f fd ["self", "name"] (spOf CK) := by
  have GN : FnOk P w K mg base CX 1 fn fdn ["thing"] spNameD := ok_nameD DN.fn T
  refine Fun.okC F scOf (fun vs H Q E h => ?_) (fun cdv A outer s H vs Q E hr h => ?_)
  · obtain ⟨p, d, kvs, n, v, rfl, _⟩ := h
    rfl
  · obtain ⟨p, d, kvs, n, v, rfl, nn, ⟨⟨dx, hp⟩, rd⟩, hv, k⟩ := h
    have hu := hu_of hr
    refine ⟨_, pss_cons (ps_if (PW.pt (pw_or (pt_not (pt_val (pe_call GN hr rfl DN.at_ DN.fn.kp DN.bind .nil (passC hC) (pa_cons (pv 1) pa_nil)))) (pw_or1 (pt_cmp (pc_dnotin hu (pv 1) (pe_fld (pv 0) rfl)))))) pss_never pss_nil)
      (pss_one (ps_ret (pe_dget hu (pe_fld (pv 0) rfl) (pv 1) (fun _ _ => rfl)))), ?_⟩
    refine ⟨_, rfl, _, .str n, rfl, .str n (Nat.le_trans nn.2.2.1 (by decide)) nn.2.1, fun H1 s1 => ⟨_, rfl, ?_⟩⟩
    rw [show nameD (.str n) = true from nn.1]
    refine iteF ⟨_, rfl, _, rfl, p, CK, dx, _, _, rfl, s1 _ _ hp, KS.cl, KS.nB, ks_by _, d, _, rfl, .inl ⟨kvs, Sum.inr n, rd_same s1 rd, rfl, rfl⟩, _, rfl, ?_⟩
    rw [hv]
    refine iteF ?_
    exact ⟨_, rfl, p, CK, dx, _, _, rfl, s1 _ _ hp, KS.cl, KS.nB, ks_by _, _, rfl, d, v, rfl, .inl ⟨kvs, Sum.inr n, rd_same s1 rd, rfl, hv.symm⟩, k _ s1⟩
end
end L2.W
-- MOD K5I
namespace L2.W
open PySem My
/-! ### the law's own rows -/
theorem for_enum {K : PySem.W.Frag} {a : Addr} {xs : List V} {g : TG} {tb : TS} {D : Ends} {σ : St} {H : Hp} (Pv : Nat → St → Hp → Prop) (h0 : Pv 0 σ H) (hl : ∀ i σ H, i ≤ xs.length → Pv i σ H → SqL K H a xs)
    (hs : ∀ i x σ H p, xs[i]? = some x → Pv i σ H → H p = none → g (.ref p) σ (upd H p (.tup [.int (i : Nat), x])) fun σ2 H2 => tb { D with nx := Pv (i + 1), ct := Pv (i + 1), bk := D.nx } σ2 H2) (hd : ∀ σ H, Pv xs.length σ H → D.nx σ H) :
    ∃ W : Nat → Nat → St → Hp → Prop, (∃ m, W 0 m σ H) ∧ ∀ i m σ H, W i m σ H →
      ((Ite K a).stop i H ∧ D.nx σ H) ∨ ((Ite K a).go i H ∧ ∃ N : St → Hp → Prop, (∀ σ' H', N σ' H' → ∃ m', m' < m ∧ W (i + 1) m' σ' H') ∧ ∀ x H', (Ite K a).yld i H x H' → g x σ H' fun σ2 H2 => tb { D with nx := N, ct := N, bk := D.nx } σ2 H2) := by
  refine ⟨fun i m σ H => m = xs.length - i ∧ i ≤ xs.length ∧ Pv i σ H, ⟨xs.length, by simp, Nat.zero_le _, h0⟩, ?_⟩
  rintro i m σ H ⟨rfl, hi, p⟩
  have q := hl i σ H hi p
  by_cases hlt : i < xs.length
  · refine .inr ⟨⟨xs, xs[i], q, by simp [hlt]⟩, Pv (i + 1), fun σ' H' p' => ⟨xs.length - (i + 1), by omega, rfl, hlt, p'⟩, fun x H' y => ?_⟩
    obtain ⟨t, z, rfl, ht, rfl, hz⟩ := y
    exact hs i z σ H t (hz xs q) p ht
  · obtain rfl : i = xs.length := by omega
    exact .inl ⟨⟨xs, q, Nat.le_refl _⟩, hd σ H p⟩
noncomputable def ownD : Option Str → PyData
  | none => .none
  | some o => .str o
noncomputable def rowD (r : Row) : PyData := .tuple [.str r.name, .list (r.fields.map fieldD), ownD r.owner]
structure RowsI (rs : List Row) : Prop where
  ok : ∀ r ∈ rs, nameOk r.name ∧ FieldsOk r.fields
  own : ∀ (i : Nat) (r : Row) (o : Str), rs[i]? = some r → r.owner = some o → ∃ (j : Nat) (r' : Row), j < i ∧ rs[j]? = some r' ∧ r'.name = o
theorem RowsI.snoc {rs : List Row} (h : RowsI rs) {r : Row} (h1 : nameOk r.name ∧ FieldsOk r.fields) (h2 : ∀ o, r.owner = some o → ∃ (j : Nat) (r' : Row), rs[j]? = some r' ∧ r'.name = o) : RowsI (rs ++ [r]) := by
  refine ⟨fun q hq => ?_, fun i q o e eo => ?_⟩
  · rcases List.mem_append.mp hq with hq | hq
    · exact h.ok q hq
    · rw [List.mem_singleton.mp hq]; exact h1
  · by_cases lt : i < rs.length
    · rw [List.getElem?_append_left lt] at e
      obtain ⟨j, r', hj, e1, e2⟩ := h.own i q o e eo
      exact ⟨j, r', hj, by rw [List.getElem?_append_left (by omega)]; exact e1, e2⟩
    · have hi : i = rs.length := by
        have := (List.getElem?_eq_some_iff.mp e).1
        simp at this
        omega
      subst hi
      have : r = q := by simpa using e
      subst this
      obtain ⟨j, r', e1, e2⟩ := h2 o eo
      have hj := (List.getElem?_eq_some_iff.mp e1).1
      exact ⟨j, r', hj, by rw [List.getElem?_append_left hj]; exact e1, e2⟩
theorem own_has {G : Addr → Prop} {H : Hp} {o : Option Str} (h : ∀ x, o = some x → nameOk x) : Has G H (ownV o) (ownD o) := by
  cases o with
  | none => exact .non
  | some x =>
    have := h x rfl
    exact .str x (Nat.le_trans this.2.2.1 (by decide)) this.2.1
noncomputable def spSpecs : Sp := fun vs H Q _ => ∃ (p : Addr) (k : Int), vs = [.ref p] ∧ Src H p k ∧ k ≤ 800000 ∧
  ∀ (l : Addr) (rs : List Row) (H' : Hp), RowsOk rs → Has (fun a => H a = none) H' (.ref l) (.list (rs.map rowD)) → Src H' p (k + 300) → (∀ b o, H b = some o → b ≠ p → H' b = some o) → Q (.ref l) H'
theorem row_name {G : Addr → Prop} {H : Hp} {v : V} {r : Row} (h : Has G H v (rowD r)) : ∃ t x y, v = .ref t ∧ G t ∧ H t = some (.tup [.str r.name, x, y]) := by
  obtain ⟨t, xs, rfl, g, e, _, hx⟩ := h.tup_inv
  cases hx with
  | cons h1 h2 =>
    cases h2 with
    | cons h3 h4 =>
      cases h4 with
      | cons h5 h6 =>
        cases h6
        obtain ⟨rfl, _⟩ := h1.str_inv
        exact ⟨t, _, _, rfl, g, e⟩
section
variable {P : Program} {w : World} {K : PySem.W.Frag} {mg : Str → Option Value} {base : Heap} {CX : CXT}
theorem k_row {R F : Option Str → Hp → Prop} {B : Prop} (t : ∀ ow Hx, F ow Hx → R ow Hx) (h : (∀ ow Hx, F ow Hx → R ow Hx) → B) : B := h t
theorem scSp : FnScope ["_law_source", "_law_got", "_law_k", "_law_name", "_law_owner"] ["_law_source"] (defScope sSpecs) := ⟨rfl, rfl, rfl, by decide +kernel, rfl, by decide +kernel, by decide +kernel⟩
theorem ok_specs {f fm fn fs fnm fl : Addr} {fd fdm fdn fds fdnm fdl : FuncData} (hC : Calm CX) (T : Tops K mg) (F : Fun K "_law_specs" "_law_specs" sSpecs f fd) (DM : Def K mg "_law_mixed" sMixed ["_law_cell", "_law_k"] fm fdm)
    (DN : Def K mg "_law_next" sNext ["_law_source", "_law_many"] fn fdn) (DS : Def K mg "_law_sign" sSign ["_law_sign_here", "_law_turn"] fs fds) (DA : Def K mg "_law_names" sNames ["_law_source", "_law_many"] fnm fdnm) (DL : Def K mg "_law_fields" sLFields ["_law_source"] fl fdl) : FnOk P w K mg base CX 5 f fd ["_law_source"] spSpecs := by
  have GN : FnOk P w K mg base CX 2 fn fdn ["_law_source", "_law_many"] spNext := ok_next hC DN.fn DM
  have GA : FnOk P w K mg base CX 3 fnm fdnm ["_law_source", "_law_many"] spNames := ok_names hC T DA.fn DM DN DS
  have GL : FnOk P w K mg base CX 4 fl fdl ["_law_source"] spLFields := ok_lfields hC T DL.fn DM DN DS DA
  refine Fun.okC F scSp (fun vs H Q E h => ?_) (fun cdv A outer s H vs Q E hr h => ?_)
  · obtain ⟨p, k, rfl, _⟩ := h
    rfl
  · obtain ⟨p, k, rfl, S0, hk, q⟩ := h
    have nd := scSp.nd
    have hr2 := hr.mono (show 2 ≤ 4 by decide)
    have hr3 := hr.mono (show 3 ≤ 4 by decide)
    refine ⟨_, pss_cons (ps_set (i := 1) nd rfl (Or.inl rfl) (pe_lst pa_nil))
      (pss_cons (ps_for PassesOwn.never rfl (pi_enum rfl T.enum (pa_cons (pe_call GA hr3 rfl DA.at_ DA.fn.kp DA.bind .nil (passC hC) (pa_cons (pv 0) (pa_cons (pe_op op_add pe_int (pe_call GN hr2 rfl DN.at_ DN.fn.kp DN.bind .nil (passC hC) (pa_cons (pv 0) (pa_cons pe_int pa_nil)))) pa_nil))) pa_nil))
        (pg_tup rfl (pgs_cons (pg_name (i := 2) nd rfl (Or.inl rfl)) (pgs_cons (pg_name (i := 3) nd rfl (Or.inl rfl)) pgs_nil)))
        (pss_cons (ps_set (i := 4) nd rfl (Or.inl rfl) pe_non)
        (pss_cons (ps_if (PW.pt (pw_and (pt_cmpR op_gt (pv 2) pe_int (nomark _)) (pw_and1 (pt_cmpR op_gt (pe_call GN hr2 rfl DN.at_ DN.fn.kp DN.bind .nil (passC hC) (pa_cons (pv 0) (pa_cons pe_int pa_nil))) pe_int (nomark _)))))
          (pss_one (ps_set (i := 4) nd rfl (Or.inl rfl) (pe_ix ix_tup (pe_ix ix_list (pv 1) (pe_call GN hr2 rfl DN.at_ DN.fn.kp DN.bind .nil (passC hC) (pa_cons (pv 0) (pa_cons (pv 2) pa_nil))) (fun _ _ => rfl)) pe_int (fun _ _ => rfl)))) pss_nil)
        (pss_one (ps_expr (pe_bm PySem.F.plainAttrs_list PySem.F.slot_list_append PySem.F.type_list_append mt_append (pv 1) (pa_cons (pe_tup (pa_cons (pv 3) (pa_cons (pe_call GL hr rfl DL.at_ DL.fn.kp DL.bind .nil (passC hC) (pa_cons (pv 0) pa_nil)) (pa_cons (pv 4) pa_nil)))) pa_nil)))))))
      (pss_one (ps_ret (pv 1)))), ?_⟩
    have small : ∀ n : Nat, n ≤ 1000 → n ≤ sizeLine := fun n h => Nat.le_of_lt (small1000 h)
    have src : ∀ {H1 H2 : Hp} {j : Int}, Src H1 p j → (∀ o, H1 p = some o → H2 p = some o) → Src H2 p j := fun ⟨a, c, i, e, r⟩ h => ⟨a, c, i, h _ e, r⟩
    refine ⟨Nat.zero_le _, fun lg fg => ?_⟩
    have ngp : lg ≠ p := by obtain ⟨_, _, _, e, _⟩ := S0; exact Ne.symm (ne_of_none e fg)
    have S1 : Src (upd H lg (.lst [])) p k := src S0 fun o e => (Same.new fg) _ _ e
    refine ⟨_, rfl, _, rfl, p, _, k, rfl, S1, by omega, by decide, by decide, fun d H1 d0 d1 S2 k2 => ⟨_, _, rfl, rfl, p, _, _, rfl, S2, by omega, by omega, by omega, fun l1 ks H1' e1 n1 o1 hl1 f1 S3 k3 => ?_⟩⟩
    have hg1 : H1' lg = some (.lst []) := k3 _ _ (by rw [k2 _ ngp]; exact upd_same) ngp
    have nll : l1 ≠ lg := fun e => by rw [e, k2 _ ngp, upd_same] at f1; cases f1
    have nl1p : l1 ≠ p := by obtain ⟨_, _, _, e, _⟩ := S2; exact Ne.symm (ne_of_none e f1)
    have kl : ks.length ≤ 5 ∧ 0 < ks.length := by omega
    refine ⟨l1, rfl, ⟨_, SqL.of hl1⟩, for_enum (K := K) (a := l1) (xs := ks.map V.str) (fun i σ H2 => ∃ (ys : List V) (rs : List Row) (x2 x3 x4 : Option V), σ = [some (.ref p), some (.ref lg), x2, x3, x4] ∧ H2 lg = some (.lst ys) ∧ ys.length = i ∧
      HasAll (fun a => H a = none ∧ a ≠ lg) H2 ys (rs.map rowD) ∧ rs.length = i ∧ rs.map (·.name) = ks.take i ∧ RowsI rs ∧ H2 l1 = some (.lst (ks.map V.str)) ∧ Src H2 p (k + 10 + 40 * i) ∧ (∀ b o, H b = some o → b ≠ p → H2 b = some o)) ?_ ?_ ?_ ?_⟩
    · refine ⟨[], [], none, none, none, rfl, hg1, rfl, .nil, rfl, rfl, ⟨(fun r h => nomatch h), fun i r o h => by simp at h⟩, hl1, S3.mono (by omega), fun b o e nb => k3 _ _ ?_ nb⟩
      rw [k2 b nb]
      exact (Same.new fg) _ _ e
    · rintro i σ H2 _ ⟨ys, rs, x2, x3, x4, rfl, hg2, hyl, hys, hrl, hnm, ri, hl1, S2, fr2⟩
      exact SqL.of hl1
    · rintro i x σ H1 pt hi ⟨ys, rs, x2, x3, x4, rfl, hg2, hyl, hys, hrl, hnm, ri, hl1, S2, fr2⟩ hpt
      rw [List.getElem?_map] at hi
      cases hn : ks[i]? with
      | none => rw [hn] at hi; cases hi
      | some n =>
        rw [hn] at hi
        cases hi
        have onm : nameOk n := o1 n (List.mem_of_getElem? hn)
        have li : i < ks.length := (List.getElem?_eq_some_iff.mp hn).1
        have sN := Same.new (o := .tup [.int (i : Nat), .str n]) hpt
        replace hg2 := sN _ _ hg2
        replace hys := hys.mono sN
        replace hl1 := sN _ _ hl1
        replace S2 := src S2 fun o e => sN _ _ e
        replace fr2 : ∀ b o, H b = some o → b ≠ p → (upd H1 pt (.tup [.int (i : Nat), .str n])) b = some o := fun b o e nb => sN _ _ (fr2 b o e nb)
        have hpt2 : (upd H1 pt (.tup [.int (i : Nat), .str n])) pt = some (.tup [.int (i : Nat), .str n]) := upd_same
        generalize upd H1 pt (.tup [.int (i : Nat), .str n]) = H2 at hg2 hys hl1 S2 fr2 hpt2 ⊢
        refine ⟨pt, _, rfl, SqT.of hpt2, rfl, _, _, rfl, _, _, rfl, rfl, ?_⟩
        refine ⟨_, rfl, _, _, rfl, rfl, _, rfl, ?_⟩
        refine' k_row (F := fun ow H5 => (∀ b o, H2 b = some o → b ≠ p → H5 b = some o) ∧ Src H5 p (k + 10 + 40 * i + 2) ∧ (∀ x, ow = some x → nameOk x) ∧ ∀ o, ow = some o → ∃ (j : Nat) (r' : Row), rs[j]? = some r' ∧ r'.name = o) _ (fun kr => _)
        rotate_left 2
        · refine ite2 (fun c1 => ?_) (fun c1 => ?_)
          · have i0 : 0 < i := by have := of_decide_eq_true c1; omega
            refine ⟨_, rfl, p, _, _, rfl, S2, by omega, by decide, by decide, fun r H3 r0 r1 S3 k3 => ⟨_, _, rfl, rfl, _, rfl, ?_⟩⟩
            refine ite2 (fun c2 => ?_) (fun c2 => ?_)
            · refine ⟨_, rfl, _, rfl, _, rfl, p, _, _, rfl, S3, by omega, by omega, by omega, fun r2 H5 a0 a1 S5 k5 => ?_⟩
              have fr5 : ∀ b o, H2 b = some o → b ≠ p → H5 b = some o := fun b o e nb => by rw [k5 b nb, k3 b nb]; exact e
              obtain ⟨j, rfl⟩ : ∃ j : Nat, r2 = (j : Int) := ⟨r2.toNat, by omega⟩
              obtain ⟨y, hy⟩ : ∃ y, ys[j]? = some y := ⟨_, List.getElem?_eq_getElem (by omega)⟩
              obtain ⟨dd, hdd, hyh⟩ := hys.get hy
              rw [List.getElem?_map] at hdd
              cases er : rs[j]? with
              | none => rw [er] at hdd; cases hdd
              | some r' =>
                rw [er] at hdd
                cases hdd
                obtain ⟨t', x', y', rfl, g', et⟩ := row_name hyh
                have nt' : t' ≠ p := by obtain ⟨_, _, _, e', _⟩ := S0; intro z; rw [z, e'] at g'; exact nomatch g'.1
                have on' := (ri.ok r' (List.mem_of_getElem? er)).1
                refine ⟨lg, ys, (j : Int), _, rfl, rfl, SqL.of (fr5 _ _ hg2 ngp), atI_nat hy, t', _, _, _, rfl, rfl, SqT.of (fr5 _ _ et nt'), rfl, ?_⟩
                rw [show V.str r'.name = ownV (some r'.name) from rfl]
                obtain ⟨ow, eo⟩ : ∃ ow, some r'.name = ow := ⟨_, rfl⟩
                rw [eo]
                exact kr ow H5 ⟨fr5, S5.mono (by omega), fun x e => by rw [← eo] at e; cases e; exact on', fun o e => ⟨j, r', er, by rw [← eo] at e; cases e; rfl⟩⟩
            · exact kr none H3 ⟨fun b o e nb => by rw [k3 b nb]; exact e, S3.mono (by omega), (fun x e => nomatch e), (fun o e => nomatch e)⟩
          · exact kr none H2 ⟨fun b o e nb => e, S2.mono (by omega), (fun x e => nomatch e), (fun o e => nomatch e)⟩
        · intro ow H5 hF
          obtain ⟨fr5, S5, hOWN, hOW⟩ := hF
          refine ⟨_, rfl, .inl ⟨rfl, _, SqL.of (fr5 _ _ hg2 ngp)⟩, _, rfl, _, rfl, p, _, rfl, S5, by omega, fun lf fs H6 fok hfs S6 k6 => ⟨_, rfl, by show 3 ≤ sizeLine; decide, fun t ht => ⟨lg, _, _, rfl, rfl, (Same.new ht) _ _ (k6 _ _ (fr5 _ _ hg2 ngp) ngp), by rw [hyl]; exact small1000 (by omega), ?_⟩⟩⟩
          have ntl : t ≠ lg := fun e => by rw [e, k6 _ _ (fr5 _ _ hg2 ngp) ngp] at ht; cases ht
          have ntp : t ≠ p := by obtain ⟨_, _, _, e, _⟩ := S6; exact Ne.symm (ne_of_none e ht)
          have bk5 : ∀ b, H5 b = none → H b = none ∧ b ≠ lg := fun b e => by
            have nbp : b ≠ p := by obtain ⟨_, _, _, e', _⟩ := S5; exact Ne.symm (ne_of_none e' e)
            refine ⟨?_, ?_⟩
            · cases z : H b with
              | none => rfl
              | some o => rw [fr5 _ _ (fr2 _ _ z nbp) nbp] at e; cases e
            · rintro rfl
              rw [fr5 _ _ hg2 ngp] at e; cases e
          have ft : H t = none := by
            cases z : H t with
            | none => rfl
            | some o => rw [k6 _ _ (fr5 _ _ (fr2 _ _ z ntp) ntp) ntp] at ht; cases ht
          have fr7 : ∀ b o, H2 b = some o → b ≠ p → b ≠ lg → (upd (upd H6 t (.tup [.str n, .ref lf, ownV ow])) lg (.lst (ys ++ [.ref t]))) b = some o := fun b o e nb nl => by
            rw [upd_ne nl]
            exact (Same.new ht) _ _ (k6 _ _ (fr5 _ _ e nb) nb)
          refine ⟨ys ++ [.ref t], rs ++ [⟨n, fs, ow⟩], _, _, _, rfl, upd_same, ?_, ?_, ?_, ?_, ri.snoc ⟨onm, fok⟩ hOW, ?_, ?_, fun b o e nb => fr7 _ _ (fr2 _ _ e nb) nb (by rintro rfl; rw [fg] at e; cases e)⟩
          · rw [List.length_append, hyl]; rfl
          · rw [List.map_append]
            refine HasAll.snoc (hys.frame fun b o g e => ⟨g, fr7 _ _ e (by obtain ⟨_, _, _, e', _⟩ := S0; rintro rfl; rw [e'] at g; exact nomatch g.1) g.2⟩) ?_
            refine .tup ⟨ft, ntl⟩ (by rw [upd_ne ntl, upd_same]) (by show 3 ≤ 1000; decide) (.cons (.str n (Nat.le_trans onm.2.2.1 (by decide)) onm.2.1) (.cons (hfs.frame fun b o g e => ⟨bk5 b g, ?_⟩) (.cons (own_has hOWN) .nil)))
            rw [upd_ne (bk5 b g).2]
            exact (Same.new ht) _ _ e
          · rw [List.length_append, hrl]; rfl
          · rw [List.map_append, hnm, List.take_add_one, hn]; rfl
          · exact fr7 _ _ hl1 nl1p nll
          · obtain ⟨a, c, j, e, r1, r2⟩ := S6
            refine ⟨a, c, j, ?_, r1, by first | omega | (push_cast; omega)⟩
            rw [upd_ne (Ne.symm ngp)]
            exact (Same.new ht) _ _ e
    · rintro σ H2 ⟨ys, rs, x2, x3, x4, rfl, hg2, hyl, hys, hrl, hnm, ri, hl1, S2, fr2⟩
      rw [List.length_map] at hyl hrl hnm S2
      rw [List.take_length] at hnm
      refine ⟨_, rfl, q lg rs H2 ⟨by omega, by omega, by rw [hnm]; exact n1, ri.ok, ri.own⟩ (.lst fg hg2 (by omega) (hys.frame fun b o g e => ⟨g.1, e⟩)) (S2.mono (by omega)) fr2⟩
end
end L2.W
-- MOD K5J
namespace L2.W
open PySem My
/-! ### a list turned -/
noncomputable def turnL {α : Type} (a : Nat) (b : Bool) (l : List α) : List α := if b then (l.drop a ++ l.take a).reverse else l.drop a ++ l.take a
theorem turnL_perm {α : Type} (a : Nat) (b : Bool) (l : List α) : (turnL a b l).Perm l := by
  have h : (l.drop a ++ l.take a).Perm l := by
    refine List.perm_append_comm.trans ?_
    rw [List.take_append_drop]
  unfold turnL
  cases b with
  | false => exact h
  | true => exact (List.reverse_perm _).trans h
theorem turnL_map {α β : Type} (f : α → β) (a : Nat) (b : Bool) (l : List α) : turnL a b (l.map f) = (turnL a b l).map f := by
  unfold turnL
  cases b <;> simp
theorem hasAll_app {G : Addr → Prop} {H : Hp} : ∀ {xs ys : List V} {ds es : List PyData}, HasAll G H xs ds → HasAll G H ys es → HasAll G H (xs ++ ys) (ds ++ es)
  | _, _, _, _, .nil, h => h
  | _, _, _, _, .cons a t, h => .cons a (hasAll_app t h)
theorem hasAll_take {G : Addr → Prop} {H : Hp} : ∀ (n : Nat) {xs : List V} {ds : List PyData}, HasAll G H xs ds → HasAll G H (xs.take n) (ds.take n)
  | 0, _, _, _ => .nil
  | _ + 1, _, _, .nil => .nil
  | n + 1, _, _, .cons a t => .cons a (hasAll_take n t)
theorem hasAll_drop {G : Addr → Prop} {H : Hp} : ∀ (n : Nat) {xs : List V} {ds : List PyData}, HasAll G H xs ds → HasAll G H (xs.drop n) (ds.drop n)
  | 0, _, _, h => h
  | _ + 1, _, _, .nil => .nil
  | n + 1, _, _, .cons _ t => hasAll_drop n t
theorem hasAll_rev {G : Addr → Prop} {H : Hp} : ∀ {xs : List V} {ds : List PyData}, HasAll G H xs ds → HasAll G H xs.reverse ds.reverse
  | _, _, .nil => .nil
  | _, _, .cons a t => by
    rw [List.reverse_cons, List.reverse_cons]
    exact hasAll_app (hasAll_rev t) (.cons a .nil)
theorem turnL_len {α : Type} (a : Nat) (b : Bool) (l : List α) : (turnL a b l).length = l.length := (turnL_perm a b l).length_eq
theorem hasAll_turn {G : Addr → Prop} {H : Hp} (a : Nat) (b : Bool) {xs : List V} {ds : List PyData} (h : HasAll G H xs ds) : HasAll G H (turnL a b xs) (turnL a b ds) := by
  unfold turnL
  cases b with
  | false => exact hasAll_app (hasAll_drop a h) (hasAll_take a h)
  | true => exact hasAll_rev (hasAll_app (hasAll_drop a h) (hasAll_take a h))
theorem cut_from {xs : List V} {a : Nat} (h : a ≤ xs.length) : cutV xs (some (a : Int)) none = xs.drop a := by
  unfold cutV HT.sIx
  have : ¬ ((a : Int) < 0) := by omega
  simp [this, Nat.min_eq_left h, List.take_of_length_le]
theorem cut_to {xs : List V} {a : Nat} (h : a ≤ xs.length) : cutV xs none (some (a : Int)) = xs.take a := by
  unfold cutV HT.sIx
  have : ¬ ((a : Int) < 0) := by omega
  simp [this, Nat.min_eq_left h]
noncomputable def spTurned (K : PySem.W.Frag) : Sp := fun vs H Q _ => ∃ (p l : Addr) (xs : List V) (k : Int), vs = [.ref p, .ref l] ∧ SqL K H l xs ∧ l ≠ p ∧ Src H p k ∧ k ≤ 999000 ∧ 0 < xs.length ∧ xs.length ≤ 1000 ∧
  ∀ (q : Addr) (a : Nat) (b : Bool) (H' : Hp), H' q = some (.lst (turnL a b xs)) → H q = none → Src H' p (k + 2) → (∀ b o, H b = some o → b ≠ p → H' b = some o) → Q (.ref q) H'
theorem sql_keep {K : PySem.W.Frag} {H H' : Hp} {l : Addr} {xs : List V} (h : SqL K H l xs) (e : ∀ o, H l = some o → H' l = some o) : SqL K H' l xs := by
  rcases h with (h | ⟨o, h⟩) | h
  · exact .inl (.inl (e _ h))
  · exact .inl (.inr ⟨o, e _ h⟩)
  · exact .inr h
section
variable {P : Program} {w : World} {K : PySem.W.Frag} {mg : Str → Option Value} {base : Heap} {CX : CXT}
theorem scTu : FnScope ["_law_source", "_law_things", "_law_at", "_law_got"] ["_law_source", "_law_things"] (defScope sTurned) := ⟨rfl, rfl, rfl, by decide +kernel, rfl, by decide +kernel, by decide +kernel⟩
theorem ok_turned {f fm fn : Addr} {fd fdm fdn : FuncData} (hC : Calm CX) (T : Tops K mg) (F : Fun K "_law_turned" "_law_turned" sTurned f fd) (DM : Def K mg "_law_mixed" sMixed ["_law_cell", "_law_k"] fm fdm)
    (DN : Def K mg "_law_next" sNext ["_law_source", "_law_many"] fn fdn) : FnOk P w K mg base CX 3 f fd ["_law_source", "_law_things"] (spTurned K) := by
  have GN : FnOk P w K mg base CX 2 fn fdn ["_law_source", "_law_many"] spNext := ok_next hC DN.fn DM
  refine Fun.okC F scTu (fun vs H Q E h => ?_) (fun cdv A outer s H vs Q E hr h => ?_)
  · obtain ⟨p, l, xs, k, rfl, _⟩ := h
    rfl
  · obtain ⟨p, l, xs, k, rfl, hl, nl, S0, hk, l0, l1, q⟩ := h
    have nd := scTu.nd
    refine ⟨_, pss_cons (ps_set (i := 2) nd rfl (Or.inl rfl) (pe_call GN hr rfl DN.at_ DN.fn.kp DN.bind .nil (passC hC) (pa_cons (pv 0) (pa_cons (pe_callB call_len_seq rfl T.len PySem.boot_len (pa_cons (pv 1) pa_nil)) pa_nil))))
      (pss_cons (ps_set (i := 3) nd rfl (Or.inl rfl) (pe_op op_cat (pe_slice sl_list (pv 1) (po_some (pv 2)) po_none) (pe_slice sl_list (pv 1) po_none (po_some (pv 2)))))
      (pss_one (ps_ret (pe_ix ix_list (pe_lst (pa_cons (pv 3) (pa_cons (pe_rev (pv 3)) pa_nil))) (pe_call GN hr rfl DN.at_ DN.fn.kp DN.bind .nil (passC hC) (pa_cons (pv 0) (pa_cons pe_int pa_nil))) (fun _ _ => rfl))))), ?_⟩
    have small : ∀ n : Nat, n ≤ 1000 → n ≤ sizeLine := fun n h => Nat.le_of_lt (small1000 h)
    have src : ∀ {H1 H2 : Hp} {j : Int}, Src H1 p j → (∀ o, H1 p = some o → H2 p = some o) → Src H2 p j := fun ⟨a, c, i, e, r⟩ h => ⟨a, c, i, h _ e, r⟩
    refine ⟨_, rfl, _, rfl, l, xs, rfl, .inl hl, p, _, k, rfl, S0, by omega, by omega, by omega, fun r H1 r0 r1 S1 k1 => ?_⟩
    obtain ⟨a, rfl⟩ : ∃ a : Nat, r = (a : Int) := ⟨r.toNat, by omega⟩
    have hl1 : SqL K H1 l xs := sql_keep hl fun o e => by rw [k1 l nl]; exact e
    refine ⟨_, rfl, _, rfl, (a : Int), rfl, l, xs, rfl, hl1, fun p1 f1 => ⟨_, rfl, _, rfl, (a : Int), rfl, l, xs, rfl, sql_keep hl1 fun o e => (Same.new f1) _ _ e, fun p2 f2 => ?_⟩⟩
    have e1 := cut_from (xs := xs) (a := a) (by omega)
    have e2 := cut_to (xs := xs) (a := a) (by omega)
    rw [e1] at f2 ⊢
    rw [e2]
    have s1 : Same H1 (upd H1 p1 (.lst (xs.drop a))) := Same.new f1
    have hp1 : (upd H1 p1 (.lst (xs.drop a))) p1 = some (.lst (xs.drop a)) := upd_same
    generalize upd H1 p1 (.lst (xs.drop a)) = H2 at f2 s1 hp1 ⊢
    have s2 : Same H2 (upd H2 p2 (.lst (xs.take a))) := Same.new f2
    refine ⟨p1, p2, _, _, rfl, rfl, s2 _ _ hp1, upd_same, ?_, fun p3 f3 => ?_⟩
    · rw [List.length_drop, List.length_take]
      exact small _ (by omega)
    have s3 : Same H1 (upd (upd H2 p2 (.lst (xs.take a))) p3 (.lst (xs.drop a ++ xs.take a))) := (s1.trans s2).trans (Same.new f3)
    have hp3 : (upd (upd H2 p2 (.lst (xs.take a))) p3 (.lst (xs.drop a ++ xs.take a))) p3 = some (.lst (xs.drop a ++ xs.take a)) := upd_same
    have n3 : H1 p3 = none := (s1.trans s2).free f3
    generalize upd (upd H2 p2 (.lst (xs.take a))) p3 (.lst (xs.drop a ++ xs.take a)) = H3 at s3 hp3 ⊢
    clear s1 s2 hp1 f1 f2 f3
    refine ⟨_, rfl, _, rfl, p3, _, rfl, SqL.of hp3, fun p4 f4 => ?_⟩
    have s4 : Same H3 (upd H3 p4 (.lst (xs.drop a ++ xs.take a).reverse)) := Same.new f4
    have hp4 : (upd H3 p4 (.lst (xs.drop a ++ xs.take a).reverse)) p4 = some (.lst (xs.drop a ++ xs.take a).reverse) := upd_same
    have n4 : H1 p4 = none := s3.free f4
    generalize upd H3 p4 (.lst (xs.drop a ++ xs.take a).reverse) = H4 at s4 hp4 ⊢
    refine ⟨by show 2 ≤ sizeLine; decide, fun p5 f5 => ?_⟩
    have s5 : Same H1 (upd H4 p5 (.lst [.ref p3, .ref p4])) := (s3.trans s4).trans (Same.new f5)
    have h3 := (Same.new (o := .lst [.ref p3, .ref p4]) f5) _ _ (s4 _ _ hp3)
    have h4 := (Same.new (o := .lst [.ref p3, .ref p4]) f5) _ _ hp4
    have h5 : (upd H4 p5 (.lst [.ref p3, .ref p4])) p5 = some (.lst [.ref p3, .ref p4]) := upd_same
    have n5 : H1 p5 = none := (s3.trans s4).free f5
    generalize upd H4 p5 (.lst [.ref p3, .ref p4]) = H5 at s5 h3 h4 h5 ⊢
    have np : ∀ {b : Addr}, H1 b = none → b ≠ p := fun {b} e => by obtain ⟨_, _, _, e', _⟩ := S1; exact Ne.symm (ne_of_none e' e)
    have S5 : Src H5 p (k + 1) := src S1 fun o e => s5 _ _ e
    refine ⟨_, rfl, p, _, _, rfl, S5, by omega, by decide, by decide, fun r H6 r0 r1 S6 k6 => ?_⟩
    have frame : ∀ b o, H b = some o → b ≠ p → H6 b = some o := fun b o e nb => by
      rw [k6 b nb]
      exact s5 _ _ (by rw [k1 b nb]; exact e)
    have back : ∀ {b : Addr}, H1 b = none → H b = none := fun {b} e => by rw [← k1 b (np e)]; exact e
    have hp5 : H6 p5 = some (.lst [.ref p3, .ref p4]) := by rw [k6 _ (np n5)]; exact h5
    by_cases c : r = 0
    · subst c
      refine ⟨p5, _, 0, _, rfl, rfl, SqL.of hp5, rfl, q p3 a false H6 ?_ (back n3) (S6.mono (by omega)) frame⟩
      rw [k6 _ (np n3)]
      exact h3
    · obtain rfl : r = 1 := by omega
      refine ⟨p5, _, 1, _, rfl, rfl, SqL.of hp5, rfl, q p4 a true H6 ?_ (back n4) (S6.mono (by omega)) frame⟩
      rw [k6 _ (np n4)]
      exact h4
end
end L2.W
-- MOD K5K
namespace L2.W
open PySem My
/-! ### are_kinds of anything -/
noncomputable def KN (C : Addr) (H : Hp) (p : Addr) (n : Str) : Prop := ∃ dx fs, H p = some (.ins C dx fs) ∧ fs.lookup ("name" : Str) = some (.str n)
noncomputable def TyK (K : PySem.W.Frag) (C : Addr) (H : Hp) (x : V) (b : Bool) : Prop := ∃ t, TyOf K H x t ∧ PySem.W.kitOne K t (.ref C) = some b
inductive AK (K : PySem.W.Frag) (C : Addr) (H : Hp) : V → Bool → Prop where
  | noL {v : V} {t : Value} (h : TyOf K H v t) (e : PySem.W.kitOne K t (.type "list") = some false) : AK K C H v false
  | emp {l : Addr} (h : H l = some (.lst [])) : AK K C H (.ref l) false
  | odd {l : Addr} {xs : List V} {bs : List Bool} (h : H l = some (.lst xs)) (h0 : 0 < xs.length) (hz : xs.length ≤ 50) (p : Paired (TyK K C H) xs bs) (e : bs.all id = false) : AK K C H (.ref l) false
  | kds {l : Addr} {ps : List Addr} {ns : List Str} (h : H l = some (.lst (ps.map V.ref))) (h0 : 0 < ps.length) (hz : ps.length ≤ 50) (p : Paired (KN C H) ps ns) (o : ∀ n ∈ ns, nameOk n) : AK K C H (.ref l) (decide ns.Nodup)
theorem unlike_dec {ks : List Str} (h : ∀ x ∈ ks, nameB x = true) : unlikeB (ks.map PyData.str) = decide ks.Nodup := by
  unfold unlikeB
  rw [strsOf_map, List.all_eq_true.mpr, Bool.true_and]
  intro d hd
  obtain ⟨x, hx, rfl⟩ := List.mem_map.mp hd
  exact h x hx
noncomputable def spAreKindsG (K : PySem.W.Frag) (C : Addr) : Sp := fun vs H Q _ => ∃ v b, vs = [v] ∧ AK K C H v b ∧ ∀ H', Same H H' → Q (.bl b) H'
section
variable {P : Program} {w : World} {K : PySem.W.Frag} {mg : Str → Option Value} {base : Heap} {CX : CXT}
theorem paired_len {α β : Type} {R : α → β → Prop} : ∀ {l : List α} {m : List β}, Paired R l m → l.length = m.length
  | _, _, .nil => rfl
  | _, _, .cons _ t => by rw [List.length_cons, List.length_cons, paired_len t]
theorem ak_inv {C fI : Addr} {H : Hp} {v : V} {b : Bool} (KC : KCls K mg C fI) (KI : KIsi K C) (ak : AK K C H v b) :
    (b = false ∧ ∃ t, TyOf K H v t ∧ PySem.W.kitOne K t (.type "list") = some false) ∨ (b = false ∧ ∃ l, v = .ref l ∧ H l = some (.lst [])) ∨
    ∃ (l : Addr) (xs : List V) (bs : List Bool), v = .ref l ∧ H l = some (.lst xs) ∧ 0 < xs.length ∧ xs.length ≤ 50 ∧ Paired (TyK K C H) xs bs ∧ (bs.all id = false → b = false) ∧
      (bs.all id = true → ∃ (ps : List Addr) (ns : List Str), xs = ps.map V.ref ∧ Paired (KN C H) ps ns ∧ (∀ n ∈ ns, nameOk n) ∧ b = decide ns.Nodup) := by
  cases ak with
  | noL h e => exact .inl ⟨rfl, _, h, e⟩
  | emp h => exact .inr (.inl ⟨rfl, _, rfl, h⟩)
  | odd h h0 hz p e => exact .inr (.inr ⟨_, _, _, rfl, h, h0, hz, p, fun _ => rfl, fun z => by rw [e] at z; cases z⟩)
  | @kds l ps ns h h0 hz p o =>
    refine .inr (.inr ⟨_, _, List.replicate ps.length true, rfl, h, by rw [List.length_map]; exact h0, by rw [List.length_map]; exact hz, ?_, fun z => by simp at z, fun _ => ⟨ps, ns, rfl, p, o, rfl⟩⟩)
    clear h h0 hz o
    induction p with
    | nil => exact .nil
    | cons r t ih =>
      obtain ⟨dx, fs, e, _⟩ := r
      exact .cons ⟨_, .ins e KC.cl KI.ha KI.hn KI.htk KI.hm, KI.one⟩ ih
theorem ok_areKindsG {f fu fn C fI : Addr} {fd fdu fdn : FuncData} (hC : Calm CX) (T : Tops K mg) (KC : KCls K mg C fI) (KI : KIsi K C) (F : Fun K "are_kinds" "are_kinds" sAreKinds f fd) (DN : Def K mg "is_name" sIsName ["thing"] fn fdn)
    (DU : Def K mg "are_unlike_names" sUnlike ["things"] fu fdu) (kl : PySem.W.kitOne K (.type "list") (.type "list") = some true) : FnOk P w K mg base CX 3 f fd ["things"] (spAreKindsG K C) := by
  have GU : FnOk P w K mg base CX 2 fu fdu ["things"] spUnlike := ok_unlike hC T DU.fn DN
  refine Fun.okC F scAk (fun vs H Q E h => ?_) (fun cdv A outer s H vs Q E hr h => ?_)
  · obtain ⟨v, b, rfl, _⟩ := h
    rfl
  · obtain ⟨v, b, rfl, ak, k⟩ := h
    refine ⟨_, pss_cons (ps_if (PW.pt (pw_or (pt_not (pt_val (pe_callB call_isinst rfl T.isinst PyProof.Rows.boot_isinstance (pa_cons (pv 0) (pa_cons (pe_bltn (v := .ty "list") rfl T.list PyProof.Rows.boot_list rfl) pa_nil)))))
        (pw_or1 (pt_cmpR op_eq (pe_callB call_len_seq rfl T.len PySem.boot_len (pa_cons (pv 0) pa_nil)) pe_int (nomark _))))) (pss_one (ps_ret pe_bl)) pss_nil)
      (pss_cons (ps_if (pt_not (pt_val (pe_callB (call_all rfl) rfl T.all PyProof.Rows.boot_all (pa_cons (pe_comp (T := ["thing"]) rfl ScOk.auto (pi_list (pv 0)) (fun _ _ _ _ => pg_name (i := 1) (by decide +kernel : (["things", "thing"] : List Str).Nodup) rfl (Or.inl rfl)) (fun _ _ _ _ => pf_nil)
        (fun _ _ _ _ => pe_callB (call_isinstK (K := K) rfl) rfl T.isinst PyProof.Rows.boot_isinstance (pa_cons (pv 1) (pa_cons (pe_glob (v := .ref C) rfl KC.mgC rfl) pa_nil)))) pa_nil)))) (pss_one (ps_ret pe_bl)) pss_nil)
      (pss_one (ps_ret (pe_call GU hr rfl DU.at_ DU.fn.kp DU.bind .nil (passC hC) (pa_cons (pe_comp (T := ["kind"]) rfl ScOk.auto (pi_list (pv 0)) (fun _ _ _ _ => pg_name (i := 1) (by decide +kernel : (["things", "kind"] : List Str).Nodup) rfl (Or.inl rfl)) (fun _ _ _ _ => pf_nil)
        (fun _ _ _ _ => pe_fldK (K := K) rfl (pv 1) rfl)) pa_nil))))), ?_⟩
    have small : ∀ n : Nat, n ≤ 1000 → n ≤ sizeLine := fun n h => Nat.le_of_lt (small1000 h)
    rcases ak_inv KC KI ak with ⟨rfl, t, h, e⟩ | ⟨rfl, l, rfl, h⟩ | ⟨l, xs, bs, ev, hl, h0, hz, hp, hb, hg⟩
    · exact ⟨_, rfl, _, _, _, _, _, rfl, h, rfl, e, _, rfl, iteT (iteT (k _ (Same.refl _)))⟩
    · refine ⟨_, rfl, _, _, _, _, _, rfl, .lst h, rfl, kl, _, rfl, iteF ⟨_, rfl, _, _, rfl, .inl (SqL.of h), rfl, _, rfl, ?_⟩⟩
      rw [decide_eq_true (show V.int ((([] : List V).length : Nat) : Int) = V.int 0 from rfl)]
      exact iteT (k _ (Same.refl _))
    · subst ev
      refine ⟨_, rfl, _, _, _, _, _, rfl, .lst hl, rfl, kl, _, rfl, iteF ?_⟩
      refine ⟨_, rfl, l, _, rfl, .inl (SqL.of hl), rfl, _, rfl, ?_⟩
      rw [decide_eq_false (show ¬ V.int (xs.length : Int) = V.int 0 by intro z0; injection z0 with z0; omega)]
      refine iteF ?_
      have bl := paired_len hp
      refine ⟨_, rfl, l, rfl, ⟨_, SqL.of hl⟩, comp_list (xs := xs) (fun i ys H' => H = H' ∧ ys = (bs.take i).map V.bl) ⟨rfl, rfl⟩ (fun i ys H' p => by rw [← p.1]; exact SqL.of hl) (fun i ys H' hi p => ?_) ?_ ?_⟩
      · rw [p.2, List.length_map]
        have := List.length_take_le i bs
        exact small _ (by omega)
      · rintro i x ys H' hi ⟨rfl, rfl⟩ N hN
        obtain ⟨b1, eb, t, ty, kk⟩ := paired_get hp hi
        refine pick ?_
        refine ⟨_, rfl, _, _, _, _, _, rfl, ty, rfl, kk, hN _ _ ⟨rfl, ?_⟩⟩
        rw [List.take_add_one, eb, List.map_append]
        rfl
      · rintro ys H' ⟨rfl, rfl⟩ q hq
        rw [bl, List.take_length]
        have s1 : Same H (upd H q (.lst (bs.map V.bl))) := Same.new hq
        refine ⟨q, bs, rfl, SqL.of upd_same, _, rfl, ?_⟩
        cases ea : bs.all id with
        | false =>
          refine iteT ?_
          rw [hb ea] at k
          exact k _ s1
        | true =>
          refine iteF ?_
          obtain ⟨ps, ns, rfl, pn, on, rfl⟩ := hg ea
          have len := paired_len pn
          rw [List.length_map] at hz
          generalize upd H q (.lst (bs.map V.bl)) = H2 at s1 ⊢
          refine ⟨_, rfl, l, rfl, ⟨_, SqL.of (s1 _ _ hl)⟩, comp_list (xs := ps.map V.ref) (fun i ys H' => H2 = H' ∧ ys = (ns.take i).map V.str) ⟨rfl, rfl⟩ (fun i ys H' p => by rw [← p.1]; exact SqL.of (s1 _ _ hl)) (fun i ys H' hi p => ?_) ?_ ?_⟩
          · rw [p.2, List.length_map]
            have := List.length_take_le' i ns
            exact small _ (by omega)
          · rintro i x ys H' hi ⟨rfl, rfl⟩ N hN
            rw [List.getElem?_map] at hi
            cases ep : ps[i]? with
            | none => rw [ep] at hi; cases hi
            | some p =>
              rw [ep] at hi
              cases hi
              obtain ⟨n, en, dx, fs, e, ef⟩ := paired_get pn ep
              refine pick ?_
              refine ⟨_, rfl, p, C, dx, _, _, rfl, s1 _ _ e, KC.cl, KC.nN, ef, hN _ _ ⟨rfl, ?_⟩⟩
              rw [List.take_add_one, en, List.map_append]
              rfl
          · rintro ys H' ⟨rfl, rfl⟩ q2 hq2
            rw [List.length_map, len, List.take_length]
            refine ⟨_, ns.map PyData.str, rfl, .lst trivial upd_same (by rw [List.length_map]; omega) (names_has fun x hx => on x hx), fun H4 s4 => ?_⟩
            rw [unlike_dec fun x hx => (on x hx).1]
            exact k _ (s1.trans ((Same.new hq2).trans s4))
end
end L2.W
-- MOD K5L
namespace L2.W
open PySem My
/-! ### Kinds that are refused -/
noncomputable def Stuck (rs : List Row) : Prop := ∀ ord : List Str, Greedy (· ∈ rs) ord → ord.length < rs.length
inductive NoKs (K : PySem.W.Frag) (C : Addr) (H : Hp) : V → Prop where
  | ak {v : V} (h : AK K C H v false) : NoKs K C H v
  | stuck {l : Addr} {zs : List (Addr × Row)} (h : H l = some (.lst (zs.map fun q => V.ref q.1))) (z : Zs C H zs) (h0 : 0 < zs.length) (o : ∀ q ∈ zs, nameOk q.2.name) (st : Stuck (zs.map (·.2))) : NoKs K C H (.ref l)
noncomputable def spBadKs (K : PySem.W.Frag) (C CN Pt : Addr) : Sp := fun vs H _ E => ∃ (p : Addr) (v : V), vs = [.ref p, v] ∧ NoKs K C H v ∧ TabOk H Pt lamPos lamQ ∧
  ∀ (e : Addr) (H' : Hp), H e = none → H' e = some (XO CN e) → TabOk H' Pt lamPos lamQ → GrownBut Pt H H' → E (.ref CN) (some e) H'
structure XTop (K : PySem.W.Frag) (mg : Str → Option Value) (x : Str) (CN : Addr) : Prop where
  at_ : mg x = some (.ref CN)
  cl : PySem.W.excIn K CN [.type "ValueError", .type "Exception", .type "BaseException", .type "object"] "ValueError.__new__" = true
theorem kn_of {C : Addr} {H : Hp} {zs : List (Addr × Row)} (h : ∀ q ∈ zs, KindO C H q.1 q.2) : Paired (KN C H) (zs.map (·.1)) (zs.map fun q => q.2.name) := by
  induction zs with
  | nil => exact .nil
  | cons q t ih =>
    obtain ⟨dx, l, e⟩ := h q List.mem_cons_self
    exact .cons ⟨dx, _, e, kf_name _ _ _⟩ (ih fun q' h' => h q' (List.mem_cons_of_mem _ h'))
section
variable {P : Program} {w : World} {K : PySem.W.Frag} {mg : Str → Option Value} {base : Heap}
theorem ok_badKs {f fI fa fp fu fn C CN c Pt : Addr} {fd fda fdp fdu fdn : FuncData} (T : Tops K mg) (KC : KCls K mg C fI) (KI : KIsi K C) (XN : XTop K mg "NoKind" CN) (LT : LamTxt K mg base c Pt) (F : Fun K "__init__" "Kinds.__init__" sInitKs f fd)
    (DN : Def K mg "is_name" sIsName ["thing"] fn fdn) (DU : Def K mg "are_unlike_names" sUnlike ["things"] fu fdu) (DA : Def K mg "are_kinds" sAreKinds ["things"] fa fda) (DP : FunL K "placed_by_owners" "placed_by_owners" sPlaced fp fdp c) (DPa : mg "placed_by_owners" = some (.ref fp)) (DPb : Binds K fdp ["kinds"] [])
    (kl : PySem.W.kitOne K (.type "list") (.type "list") = some true) : FnOk P w K mg base (CXM P w) 5 f fd ["self", "kinds"] (spBadKs K C CN Pt) := by
  have GA : FnOk P w K mg base (CXM P w) 3 fa fda ["things"] (spAreKindsG K C) := ok_areKindsG calmM T KC KI DA.fn DN DU kl
  have GP : FnOk P w K mg base (CXM P w) 4 fp fdp ["kinds"] (spPlaced C Pt) := ok_placed calmM T KC LT DP
  refine Fun.okX F scKs (fun vs H Q E h => ?_) (fun cdv A outer s H vs Q E hr h => ?_)
  · obtain ⟨p, v, rfl, _⟩ := h
    rfl
  · obtain ⟨p, v, rfl, bad, hT, k⟩ := h
    have nd := scKs.nd
    have hr3 := hr.mono (show 3 ≤ 4 by decide)
    refine ⟨_, pss_cons (ps_if (pt_not (pt_val (pe_call GA hr3 rfl DA.at_ DA.fn.kp DA.bind .nil (passC calmM) (pa_cons (pv 1) pa_nil)))) (pss_one (ps_raise (C := CN) (W := fun _ e H' => E (.ref CN) (some e) H') XN.cl rfl XN.at_ rfl (pa_cons pe_str pa_nil) (fun pins σ H s e I he fr w => xe_new I he (.inl fr) w))) pss_nil)
      (pss_cons (ps_set (i := 2) nd rfl (Or.inl rfl) (pe_call GP hr rfl DPa DP.kp DPb .nil (passC calmM) (pa_cons (pv 1) pa_nil)))
      (pss_cons (ps_if (pt_cmpR op_lt (pe_callB call_len_dict rfl T.len PySem.boot_len (pa_cons (pv 2) pa_nil)) (pe_callB call_len_seq rfl T.len PySem.boot_len (pa_cons (pv 1) pa_nil)) (nomark _)) (pss_one (ps_raise (C := CN) (W := fun _ e H' => E (.ref CN) (some e) H') XN.cl rfl XN.at_ rfl (pa_cons pe_str pa_nil) (fun pins σ H s e I he fr w => xe_new I he (.inl fr) w))) pss_nil)
      pss_never)), ?_⟩
    have one : (1 : Nat) ≤ sizeLine := Nat.le_of_lt (small1000 (by decide))
    have raised : ∀ H1 : Hp, TabOk H1 Pt lamPos lamQ → GrownBut Pt H H1 → (∀ e, H1 e = none → H e = none) → 1 ≤ sizeLine ∧ ∀ e, H1 e = none → E (.ref CN) (some e) (upd H1 e (XO CN e)) := fun H1 t1 g1 n1 => ⟨one, fun e he => k e _ (n1 e he) upd_same (t1.same (Same.new he)) (g1.trans (.same (Same.new he)))⟩
    cases bad with
    | ak h => exact ⟨_, rfl, _, _, rfl, h, fun H1 s1 => ⟨_, rfl, iteT (raised H1 (hT.same s1) (.same s1) fun e he => s1.free he)⟩⟩
    | @stuck l zs hl hz h0 ho st =>
      refine ⟨_, rfl, _, _, rfl, .kds (ps := zs.map (·.1)) (by rw [List.map_map]; exact hl) (by rw [List.length_map]; exact h0) (by rw [List.length_map]; exact hz.le) (kn_of hz.at_) (fun n hn => by obtain ⟨q, hq, rfl⟩ := List.mem_map.mp hn; exact ho q hq), fun H1 s1 => ⟨_, rfl, ?_⟩⟩
      rw [decide_eq_true hz.nd]
      refine iteF ?_
      refine ⟨_, rfl, l, zs, rfl, s1 _ _ hl, hz.mono fun b o e _ => s1 _ _ e, hT.same s1, fun d ord kvs H2 hd hd2 hpl hgr hno hT2 hG => ?_⟩
      have hl2 := hG _ _ (s1 _ _ hl) (hT.ne hl fun _ z => nomatch z)
      refine ⟨_, rfl, d, kvs, rfl, .inl hd2, _, rfl, l, _, rfl, .inl (SqL.of hl2), _, _, rfl, rfl, _, rfl, ?_⟩
      have kvl : kvs.length = ord.length := (Paired.length hpl).symm
      have lt := st ord hgr
      rw [List.length_map] at lt
      refine ite2 (fun _ => ?_) (fun h => absurd (decide_eq_true (by rw [List.length_map]; omega)) h)
      have gr : GrownBut Pt H H2 := (GrownBut.same s1).trans hG
      refine raised H2 hT2 gr fun e he => ?_
      cases q : H e with
      | none => rfl
      | some o =>
        exfalso
        by_cases ep : e = Pt
        · subst ep
          rcases hT2 with z | ⟨_, z, _⟩ <;> rw [he] at z <;> cases z
        · rw [gr e o q ep] at he
          cases he
end
end L2.W
-- MOD K5M
namespace L2.W
open PySem My
/-! ### the word for what Kinds says -/
theorem ty_same {K : PySem.W.Frag} {H H' : Hp} {v : V} {t : Value} (s : Same H H') (h : TyOf K H v t) : TyOf K H' v t := by
  cases h with
  | non => exact .non
  | bl x => exact .bl x
  | int x => exact .int x
  | str x => exact .str x
  | flt x => exact .flt x
  | lst e => exact .lst (s _ _ e)
  | frz e => exact .frz (s _ _ e)
  | tup e => exact .tup (s _ _ e)
  | dK e => exact .dK (s _ _ e)
  | dT e => exact .dT (s _ _ e)
  | ins e cl ha hn htk hm => exact .ins (s _ _ e) cl ha hn htk hm
theorem paired_imp {α β : Type} {R R' : α → β → Prop} {l : List α} {m : List β} (h : Paired R l m) (i : ∀ a b, R a b → R' a b) : Paired R' l m := by
  induction h with
  | nil => exact .nil
  | cons r t ih => exact .cons (i _ _ r) ih
theorem AK.same {K : PySem.W.Frag} {C : Addr} {H H' : Hp} {v : V} {b : Bool} (s : Same H H') (h : AK K C H v b) : AK K C H' v b := by
  cases h with
  | noL h e => exact .noL (ty_same s h) e
  | emp h => exact .emp (s _ _ h)
  | odd h h0 hz p e => exact .odd (s _ _ h) h0 hz (paired_imp p fun _ _ ⟨t, a, b⟩ => ⟨t, ty_same s a, b⟩) e
  | kds h h0 hz p o => exact .kds (s _ _ h) h0 hz (paired_imp p fun _ _ ⟨dx, fs, a, b⟩ => ⟨dx, fs, s _ _ a, b⟩) o
theorem NoKs.same {K : PySem.W.Frag} {C : Addr} {H H' : Hp} {v : V} (s : Same H H') (h : NoKs K C H v) : NoKs K C H' v := by
  cases h with
  | ak h => exact .ak (h.same s)
  | stuck h z h0 o st => exact .stuck (s _ _ h) (z.mono fun b o e _ => s _ _ e) h0 o st
structure Refs (K : PySem.W.Frag) (mg : Str → Option Value) (CN CR C1 C2 C3 : Addr) : Prop where
  no : XTop K mg "NoKind" CN
  x : XCls K CN
  rest : mg "RestError" = some (.ref CR)
  n1 : mg "NoName" = some (.ref C1)
  n2 : mg "NoWish" = some (.ref C2)
  n3 : mg "TooMany" = some (.ref C3)
  ve : mg "ValueError" = none
  exm : PySem.W.exmOne K (.ref CN) (.ref CR) = some true
  one : PySem.W.kitOne K (.ref CN) (.ref CN) = some true
  val : PySem.W.kitOne K (.ref CN) (.type "ValueError") = some true
  oth : PySem.W.kitAny K (.ref CN) [.ref C1, .ref C2, .ref C3] = some false
noncomputable def spWord (K : PySem.W.Frag) (C Pt : Addr) : Sp := fun vs H Q _ => ∃ v, vs = [v] ∧ TabOk H Pt lamPos lamQ ∧ ((NoKs K C H v ∧ ∀ H', TabOk H' Pt lamPos lamQ → GrownBut Pt H H' → Q (.str "kind") H') ∨
  ∃ (l : Addr) (zs : List (Addr × Row)), v = .ref l ∧ H l = some (.lst (zs.map fun q => V.ref q.1)) ∧ Zs C H zs ∧ RowsP (zs.map (·.2)) ∧ ∀ H', TabOk H' Pt lamPos lamQ → GrownBut Pt H H' → Q (.str "told") H')
section
variable {P : Program} {w : World} {K : PySem.W.Frag} {mg : Str → Option Value} {base : Heap}
theorem scWd : FnScope ["_law_things", "_law_word_here", "_law_others", "e"] ["_law_things"] (defScope sWord) := ⟨rfl, rfl, rfl, by decide +kernel, rfl, by decide +kernel, by decide +kernel⟩
theorem ok_word {f C CK CN CR C1 C2 C3 Pt fIk fOr fOf fOw : Addr} {fd fdk : FuncData} (T : Tops K mg) (R : Refs K mg CN CR C1 C2 C3) (KS : KsCls K mg CK fIk fOr fOf fOw) (F : Fun K "_law_word" "_law_word" sWord f fd)
    (GG : FnOk P w K mg base (CXM P w) 5 fIk fdk ["self", "kinds"] (spInitKs CK C Pt)) (GB : FnOk P w K mg base (CXM P w) 5 fIk fdk ["self", "kinds"] (spBadKs K C CN Pt)) (bS : Binds K fdk ["self", "kinds"] []) :
    FnOk P w K mg base (CXM P w) 7 f fd ["_law_things"] (spWord K C Pt) := by
  have GS := GG.or GB
  refine Fun.okX F scWd (fun vs H Q E h => ?_) (fun cdv A outer s H vs Q E hr h => ?_)
  · obtain ⟨v, rfl, _⟩ := h
    rfl
  · obtain ⟨v, rfl, hT, k⟩ := h
    have nd := scWd.nd
    refine ⟨_, pss_cons (ps_set (i := 1) nd rfl (Or.inl rfl) pe_str)
      (pss_cons (ps_try (i := 3) (B := CR) rfl rfl rfl nd rfl rfl rfl R.rest (fun pins W => pss_one (ps_expr (pe_make KS.mkd GS hr rfl KS.mgC bS .nil (pass_try rfl) (pa_cons (pv 0) pa_nil))))
        (fun e => pss_cons (ps_set (i := 2) nd rfl (Or.inl rfl) (pe_callB (call_isinstT (K := K) rfl) rfl T.isinst PyProof.Rows.boot_isinstance (pa_cons (pv 3) (pa_cons (pe_tup (pa_cons (pe_glob (v := .ref C1) rfl R.n1 rfl) (pa_cons (pe_glob (v := .ref C2) rfl R.n2 rfl) (pa_cons (pe_glob (v := .ref C3) rfl R.n3 rfl) pa_nil)))) pa_nil))))
          (pss_one (ps_set (i := 1) nd rfl (Or.inl rfl) (pe_ix ix_list (pe_lst (pa_cons pe_str (pa_cons pe_str pa_nil)))
            (pe_callTy call_int1 rfl T.int PyProof.Rows.boot_int (pa_cons (pe_and (pe_callB (call_isinstX (K := K) rfl) rfl T.isinst PyProof.Rows.boot_isinstance (pa_cons (pv 3) (pa_cons (pe_glob (v := .ref CN) rfl R.no.at_ rfl) pa_nil)))
              (pe_and (pe_callB (call_isinstX (K := K) rfl) rfl T.isinst PyProof.Rows.boot_isinstance (pa_cons (pv 3) (pa_cons (pe_bltn (v := .ty "ValueError") rfl R.ve (by decide +kernel) rfl) pa_nil)))
                (pe_one (pe_not (pv 2))))) pa_nil)) (fun _ _ => rfl))))))
      (pss_one (ps_ret (pv 1)))), ?_⟩
    refine ⟨fun σ' e C' H' => C' = CN ∧ σ' = [some v, some (.str "told"), none, none] ∧ TabOk H' Pt lamPos lamQ ∧ GrownBut Pt H H' ∧ ∀ H2, TabOk H2 Pt lamPos lamQ → GrownBut Pt H H2 → Q (.str "kind") H2, ?_, ?_⟩
    · refine ⟨_, rfl, fun x dx hx hdx ne => ?_⟩
      have s1 : Same H (upd (upd H dx (.own x)) x (.ins CK dx [])) := (Same.new hdx).trans (Same.new (by rw [upd_ne (Ne.symm ne)]; exact hx))
      have hx1 : (upd (upd H dx (.own x)) x (.ins CK dx [])) x = some (.ins CK dx []) := upd_same
      generalize upd (upd H dx (.own x)) x (.ins CK dx []) = H1 at s1 hx1 ⊢
      rcases k with ⟨bad, k⟩ | ⟨l, zs, rfl, hl, hz, rp, k⟩
      · exact .inr ⟨x, v, rfl, bad.same s1, hT.same s1, fun e H' hn he hT' hG => ⟨e, CN, rfl, rfl, rfl, rfl, hT', (GrownBut.same s1).trans hG, k⟩⟩
      · refine .inl ⟨x, dx, l, zs, rfl, hx1, s1 _ _ hl, hz.mono fun b o e _ => s1 _ _ e, rp, hT.same s1, fun d ord kvs H' _ _ _ _ _ _ hT' kk => ⟨rfl, ?_⟩⟩
        exact ⟨_, rfl, k H' hT' fun b o e n => kk b o (s1 _ _ e) (by rintro rfl; rw [hx] at e; cases e) n⟩
    · rintro σ' e C' H' he ⟨rfl, rfl, hT', hG, k'⟩
      refine ⟨R.exm, ?_⟩
      refine ⟨_, rfl, by show 3 ≤ sizeLine; decide, fun t ht => ⟨e, _, t, [C1, C2, C3], false, rfl, (Same.new ht) _ _ he, R.x, upd_same, R.oth, ?_⟩⟩
      have s1 : Same H' (upd H' t (.tup [.ref C1, .ref C2, .ref C3])) := Same.new ht
      have he1 := s1 _ _ he
      generalize upd H' t (.tup [.ref C1, .ref C2, .ref C3]) = H1 at s1 he1 ⊢
      refine ⟨by show 2 ≤ sizeLine; decide, fun q hq => ?_⟩
      have s2 : Same H1 (upd H1 q (.lst [.str "other", .str "kind"])) := Same.new hq
      have he2 := s2 _ _ he1
      have hq2 : (upd H1 q (.lst [.str "other", .str "kind"])) q = some (.lst [.str "other", .str "kind"]) := upd_same
      generalize upd H1 q (.lst [.str "other", .str "kind"]) = H2 at s2 he2 hq2 ⊢
      refine ⟨_, rfl, e, _, _, .ref C', true, rfl, he2, R.x, rfl, R.one, (fun z => absurd rfl (z C')), _, rfl, iteT ?_⟩
      refine ⟨_, rfl, e, _, _, .type "ValueError", true, rfl, he2, R.x, rfl, R.val, (fun _ => ⟨_, rfl⟩), _, rfl, iteT ?_⟩
      refine ⟨_, rfl, _, rfl, .inr ⟨_, rfl, ?_⟩⟩
      refine ⟨q, _, 1, _, rfl, rfl, SqL.of hq2, rfl, ?_⟩
      exact ⟨_, rfl, k' H2 ((hT'.same s1).same s2) (hG.trans (.same (s1.trans s2)))⟩
end
end L2.W
-- MOD K5M2
namespace L2.W
open PySem My
/-! ### kinds made of rows -/
theorem row_inv {G : Addr → Prop} {H : Hp} {v : V} {r : Row} (h : Has G H v (rowD r)) : ∃ t lf, v = .ref t ∧ H t = some (.tup [.str r.name, .ref lf, ownV r.owner]) ∧ Has G H (.ref lf) (.list (r.fields.map fieldD)) := by
  obtain ⟨t, xs, rfl, g, e, _, hx⟩ := h.tup_inv
  cases hx with
  | cons h1 h2 =>
    cases h2 with
    | cons h3 h4 =>
      cases h4 with
      | @cons x _ _ _ h5 h6 =>
        cases h6
        obtain ⟨rfl, _⟩ := h1.str_inv
        obtain ⟨lf, ys, rfl, _⟩ := id h3.list_inv
        have eo : x = ownV r.owner := by
          cases er : r.owner with
          | none => rw [er] at h5; cases h5; rfl
          | some o => rw [er] at h5; exact h5.str_inv.1
        subst eo
        exact ⟨t, lf, rfl, e, h3⟩
theorem init_ownF {C x dx : Addr} {H : Hp} {r : Row} {vf : V} {Q : VK} {E : XK} (hx : H x = none) (hdx : H dx = none) (ne : dx ≠ x) (hn : nameOk r.name) (hf : Has Any H vf (.list (r.fields.map fieldD))) (ok : FieldsOk r.fields) (ho : ∀ o, r.owner = some o → nameOk o ∧ o ≠ r.name)
    (k : ∀ H' l, Same H H' → H' x = some (.ins C dx (kflds (.str r.name) (.ref l) (ownV r.owner))) → Has (fun a => H a = none) H' (.ref l) (.list (r.fields.map fieldD)) → Q .non H') :
    spInit C (.ref x :: ([.str r.name, vf, ownV r.owner] ++ [])) (upd (upd H dx (.own x)) x (.ins C dx [])) Q E := by
  have hx2 : (upd H dx (.own x)) x = none := by rw [upd_ne ne.symm]; exact hx
  have s : Same H (upd (upd H dx (.own x)) x (.ins C dx [])) := (Same.new hdx).trans (Same.new hx2)
  refine ⟨x, dx, vf, ownV r.owner, r.name, _, ownD r.owner, rfl, upd_same, by have := hn.2.2; omega, hn.2.1, hn.1, hf.mono s, (fields_ok ok).1, own_has fun o e => (ho o e).1, ?_, (fields_ok ok).2, fun H' l hp hl fr => k H' l (fun b o e => fr b o (s _ _ e) (ne_of_none e hx)) hp (hl.frame fun b o g e => ⟨s.free g, e⟩)⟩
  cases eo : r.owner with
  | none => rfl
  | some o =>
    obtain ⟨h1, h2⟩ := ho o eo
    show (nameB o && !decide (o = r.name)) = true
    rw [h1.1, decide_eq_false h2]
    rfl
theorem init_own {C x dx : Addr} {H : Hp} {r : Row} {vf : V} {Q : VK} {E : XK} (hx : H x = none) (hdx : H dx = none) (ne : dx ≠ x) (hn : nameOk r.name) (hf : Has Any H vf (.list (r.fields.map fieldD))) (ok : FieldsOk r.fields) (ho : ∀ o, r.owner = some o → nameOk o ∧ o ≠ r.name)
    (k : ∀ H', Same H H' → KindO C H' x r → Q .non H') :
    spInit C (.ref x :: ([.str r.name, vf, ownV r.owner] ++ [])) (upd (upd H dx (.own x)) x (.ins C dx [])) Q E :=
  init_ownF hx hdx ne hn hf ok ho fun H' l s e _ => k H' s ⟨dx, l, e⟩
theorem RowsP.owner {rs : List Row} (h : RowsP rs) {r : Row} {o : Str} (hr : r ∈ rs) (e : r.owner = some o) : nameOk o ∧ o ≠ r.name := by
  obtain ⟨r0, ok, p⟩ := h
  obtain ⟨a, b, _⟩ := ok.owner (p.mem_iff.mp hr) e
  exact ⟨a, b⟩
end L2.W
-- MOD K5N
namespace L2.W
open PySem My
/-! ### kinds that own one another in a ring -/
theorem stuck_of {rs : List Row} (S : List Str) (h0 : ∃ r ∈ rs, r.name ∈ S) (h : ∀ r ∈ rs, r.name ∈ S → ∃ o, r.owner = some o ∧ (o ∈ S ∨ ∀ r' ∈ rs, r'.name ≠ o)) : Stuck rs := by
  intro ord g
  have key : ∀ (i : Nat) (n : Str), ord[i]? = some n → n ∉ S := by
    intro i
    induction i using Nat.strongRecOn with
    | _ i ih =>
      intro n e hn
      obtain ⟨⟨r, hr, rfl, _, hw⟩, _⟩ := g i n e
      obtain ⟨o, eo, q⟩ := h r hr hn
      have mo := hw o eo
      obtain ⟨j, hj⟩ := List.getElem?_of_mem mo
      have jl : j < i := by
        have := (List.getElem?_eq_some_iff.mp hj).1
        rw [List.length_take] at this
        omega
      have hj' : ord[j]? = some o := by rw [List.getElem?_take_of_lt jl] at hj; exact hj
      rcases q with q | q
      · exact ih j jl o hj' q
      · obtain ⟨r', m', e'⟩ := g.mem (List.mem_of_getElem? hj')
        exact q r' m' e'
  obtain ⟨r, hr, hS⟩ := h0
  have no : r.name ∉ ord := fun m => by
    obtain ⟨i, hi⟩ := List.getElem?_of_mem m
    exact key i _ hi hS
  have := sub_len (a := r.name :: ord) (b := rs.map (·.name)) (List.nodup_cons.mpr ⟨no, g.nodup⟩) fun x hx => by
    rcases List.mem_cons.mp hx with e | hx
    · rw [e]; exact List.mem_map.mpr ⟨r, hr, rfl⟩
    · obtain ⟨r', m', e⟩ := g.mem hx
      exact List.mem_map.mpr ⟨r', m', e⟩
  rw [List.length_cons, List.length_map] at this
  omega
theorem noKs_of {K : PySem.W.Frag} {C : Addr} {H : Hp} {l : Addr} {zs : List (Addr × Row)} (h : H l = some (.lst (zs.map fun q => V.ref q.1))) (hk : ∀ q ∈ zs, KindO C H q.1 q.2) (h0 : 0 < zs.length) (hz : zs.length ≤ 50) (o : ∀ q ∈ zs, nameOk q.2.name)
    (st : (zs.map fun q => q.2.name).Nodup → Stuck (zs.map (·.2))) : NoKs K C H (.ref l) := by
  by_cases nd : (zs.map fun q => q.2.name).Nodup
  · exact .stuck h ⟨hk, nd, hz⟩ h0 o (st nd)
  · refine .ak ?_
    have := AK.kds (K := K) (ps := zs.map (·.1)) (by rw [List.map_map]; exact h) (by rw [List.length_map]; exact h0) (by rw [List.length_map]; exact hz) (kn_of hk) (fun n hn => by obtain ⟨q, hq, rfl⟩ := List.mem_map.mp hn; exact o q hq)
    rw [decide_eq_false nd] at this
    exact this
theorem comp_enum {K : PySem.W.Frag} {a : Addr} {xs : List V} {k : Nat} {σ : St} {H : Hp} {g : TG} {tt : TT} {te : TE} {Q : VK} (Pv : Nat → List V → Hp → Prop) (h0 : Pv 0 [] H) (hl : ∀ i ys H, Pv i ys H → SqL K H a xs)
    (hz : ∀ i ys H, i ≤ xs.length → Pv i ys H → ys.length ≤ sizeLine)
    (hs : ∀ i x ys H p, xs[i]? = some x → Pv i ys H → H p = none → ∀ N : List V → Hp → Prop, (∀ ys H, Pv (i + 1) ys H → N ys H) → g (.ref p) (σ ++ List.replicate k none) (upd H p (.tup [.int (i : Nat), x])) fun σ2 H2 => tt σ2 H2 fun b H3 => if b = true then te σ2 H3 fun y H4 => N (ys ++ [y]) H4 else N ys H3)
    (hd : ∀ ys H, Pv xs.length ys H → ∀ p, H p = none → Q (.ref p) (upd H p (.lst ys))) : CompGoal (Ite K a) k σ H g tt te Q := by
  refine comp_by (J := Ite K a) (n := xs.length) Pv h0 (fun i ys H lt p => ⟨xs, xs[i], hl i ys H p, List.getElem?_eq_getElem lt⟩) (fun ys H p => ⟨xs, hl _ ys H p, Nat.le_refl _⟩) hz ?_ hd
  rintro i ys H x H' lt p ⟨t, z, rfl, ht, rfl, hz⟩ N hN
  exact hs i z ys _ t (hz xs (hl _ _ _ p)) p ht N hN
noncomputable def rNames : List Str := ["r", "s", "t", "u"]
noncomputable def rNm (i : Nat) : Str := rNames[i]?.getD "r"
noncomputable def rRow (n i : Nat) : Row := ⟨rNm i, [], some (rNm ((i + 1) % n))⟩
theorem rNm_ok : ∀ i < 4, nameOk (rNm i) := by unfold nameOk; decide +kernel
theorem rNm_ne : ∀ n < 5, 2 ≤ n → ∀ i < n, rNm ((i + 1) % n) ≠ rNm i := by decide +kernel
theorem fields_nil : FieldsOk [] := ⟨Nat.zero_le _, .nil, (fun _ h => nomatch h), by decide⟩
theorem cut_one {xs : List V} : cutV xs none (some ((1 : Nat) : Int)) = xs.take 1 := by
  cases xs with
  | nil => rfl
  | cons x t => exact cut_to (by rw [List.length_cons]; omega)
noncomputable def NoK (K : PySem.W.Frag) (C p : Addr) (k : Int) (H : Hp) (v : V) (H' : Hp) : Prop := NoKs K C H' v ∧ Src H' p k ∧ ∀ b o, H b = some o → b ≠ p → H' b = some o
theorem ne_of' {H : Hp} {l p : Addr} {a b c : Int} {zs : List (Addr × Row)} (h : H l = some (.lst (zs.map fun q => V.ref q.1))) (e : H p = some (.lst [.int a, .int b, .int c])) : l ≠ p := by
  rintro rfl
  rw [h] at e
  cases zs with
  | nil => cases e
  | cons q t => cases e
noncomputable def spRing (K : PySem.W.Frag) (C : Addr) : Sp := fun vs H Q _ => ∃ (p l : Addr) (k : Int) (zs : List (Addr × Row)), vs = [.ref p, .ref l] ∧ Src H p k ∧ k ≤ 900000 ∧ H l = some (.lst (zs.map fun q => V.ref q.1)) ∧ (∀ q ∈ zs, KindO C H q.1 q.2) ∧ (∀ q ∈ zs, nameOk q.2.name) ∧ ∀ v H', NoK K C p (k + 3) H v H' → Q v H'
section
variable {P : Program} {w : World} {K : PySem.W.Frag} {mg : Str → Option Value} {base : Heap} {CX : CXT}
theorem scRi : FnScope ["_law_source", "_law_kinds", "_law_names_here", "_law_got"] ["_law_source", "_law_kinds"] (defScope sRing) := ⟨rfl, rfl, rfl, by decide +kernel, rfl, by decide +kernel, by decide +kernel⟩
theorem ok_ring {f C fI fT fm fn : Addr} {fd fdI fdT fdm fdn : FuncData} (hC : Calm CX) (T : Tops K mg) (KC : KCls K mg C fI) (GK : FnOk P w K mg base CX 5 fI fdI ["self", "name", "fields", "owner"] (spInit C)) (bK : Binds K fdI ["self", "name", "fields", "owner"] []) (F : Fun K "_law_ring" "_law_ring" sRing f fd)
    (DM : Def K mg "_law_mixed" sMixed ["_law_cell", "_law_k"] fm fdm) (DN : Def K mg "_law_next" sNext ["_law_source", "_law_many"] fn fdn) (DT : Def K mg "_law_turned" sTurned ["_law_source", "_law_things"] fT fdT) : FnOk P w K mg base CX 7 f fd ["_law_source", "_law_kinds"] (spRing K C) := by
  have GN : FnOk P w K mg base CX 2 fn fdn ["_law_source", "_law_many"] spNext := ok_next hC DN.fn DM
  have GT : FnOk P w K mg base CX 3 fT fdT ["_law_source", "_law_things"] (spTurned K) := ok_turned hC T DT.fn DM DN
  refine Fun.okC F scRi (fun vs H Q E h => ?_) (fun cdv A outer s H vs Q E hr h => ?_)
  · obtain ⟨p, l, k, zs, rfl, _⟩ := h
    rfl
  · obtain ⟨p, l, k, zs, rfl, S0, hk, hl, hz, ho, q⟩ := h
    have nd := scRi.nd
    have hr2 := hr.mono (show 2 ≤ 6 by decide)
    have hr3 := hr.mono (show 3 ≤ 6 by decide)
    refine ⟨_, pss_cons (ps_set (i := 2) nd rfl (Or.inr rfl) (pe_slice sl_list (pe_lst (pa_consts (vs := [.str "r", .str "s", .str "t", .str "u"]) (by decide +kernel))) po_none (po_some (pe_op op_add pe_int (pe_call GN hr2 rfl DN.at_ DN.fn.kp DN.bind .nil (passC hC) (pa_cons (pv 0) (pa_cons pe_int pa_nil)))))))
      (pss_cons (ps_setComp (T := ["_law_k", "_law_name"]) (i := 3) rfl ScOk.auto (pi_enum rfl T.enum (pa_cons (pv 2) pa_nil)) (fun _ _ _ _ => pg_tupK (K := K) (n := 2) rfl rfl (pgs_cons (pg_name (i := 4) (by decide +kernel : (["_law_source", "_law_kinds", "_law_names_here", "_law_got", "_law_k", "_law_name"] : List Str).Nodup) rfl (Or.inl rfl)) (pgs_cons (pg_name (i := 5) (by decide +kernel : (["_law_source", "_law_kinds", "_law_names_here", "_law_got", "_law_k", "_law_name"] : List Str).Nodup) rfl (Or.inl rfl)) pgs_nil))) (fun _ _ _ _ => pf_nil)
        (fun _ _ _ _ => pe_make KC.mkd GK hr rfl KC.mgC bK .nil (passC hC) (pa_cons (pv 5) (pa_cons (pe_lst pa_nil) (pa_cons (pe_ix (r := rIxL K) ix_list (pv 2) (pe_op op_mod (pe_op op_add (pv 4) pe_int) (pe_callB (r := fun xs H Q => ∃ p ys, xs = [.ref p] ∧ (SqL K H p ys ∨ SqT K H p ys) ∧ Q (.int (ys.length : Nat)) H) call_len_seq rfl T.len PySem.boot_len (pa_cons (pv 2) pa_nil))) (fun _ _ => rfl)) pa_nil)))) nd rfl rfl rfl)
      (pss_one (ps_ret (pe_call GT hr3 rfl DT.at_ DT.fn.kp DT.bind .nil (passC hC) (pa_cons (pv 0) (pa_cons (pe_op op_cat (pv 3) (pe_slice sl_list (pv 1) po_none (po_some pe_int))) pa_nil)))))), ?_⟩
    have small : ∀ n : Nat, n ≤ 1000 → n ≤ sizeLine := fun n h => Nat.le_of_lt (small1000 h)
    have src : ∀ {H1 H2 : Hp} {j : Int}, Src H1 p j → (∀ o, H1 p = some o → H2 p = some o) → Src H2 p j := fun ⟨a, c, i, e, r⟩ h => ⟨a, c, i, h _ e, r⟩
    refine ⟨by show 4 ≤ sizeLine; decide, fun p0 f0 => ?_⟩
    have s0 : Same H (upd H p0 (.lst [.str "r", .str "s", .str "t", .str "u"])) := Same.new f0
    have h0 : (upd H p0 (.lst [.str "r", .str "s", .str "t", .str "u"])) p0 = some (.lst (rNames.map V.str)) := upd_same
    generalize upd H p0 (.lst [.str "r", .str "s", .str "t", .str "u"]) = H0 at s0 h0 ⊢
    have np : p0 ≠ p := by obtain ⟨_, _, _, e, _⟩ := S0; exact Ne.symm (ne_of_none e f0)
    refine ⟨_, rfl, p, 3, k, rfl, src S0 fun o e => s0 _ _ e, by omega, by decide, by decide, fun r H1 r0 r1 S1 k1 => ?_⟩
    obtain ⟨a, rfl⟩ : ∃ a : Nat, r = (a : Int) := ⟨r.toNat, by omega⟩
    refine ⟨_, _, rfl, rfl, _, rfl, p0, _, rfl, SqL.of (by rw [k1 _ np]; exact h0), fun p1 f1 => ?_⟩
    obtain ⟨n, rfl, n2, n4⟩ : ∃ n : Nat, n = 2 + a ∧ 2 ≤ n ∧ n ≤ 4 := ⟨2 + a, rfl, by omega, by omega⟩
    have rl : rNames.length = 4 := rfl
    have e1 : cutV (rNames.map V.str) none (some (2 + (a : Int))) = (rNames.take (2 + a)).map V.str := by
      have := cut_to (xs := rNames.map V.str) (a := 2 + a) (by rw [List.length_map]; omega)
      rw [← List.map_take] at this
      exact this
    rw [e1]
    have s2 : Same H1 (upd H1 p1 (.lst ((rNames.take (2 + a)).map V.str))) := Same.new f1
    have h2 : (upd H1 p1 (.lst ((rNames.take (2 + a)).map V.str))) p1 = some (.lst ((rNames.take (2 + a)).map V.str)) := upd_same
    generalize upd H1 p1 (.lst ((rNames.take (2 + a)).map V.str)) = H2 at s2 h2 ⊢
    generalize 2 + a = n at n2 n4 h2 ⊢
    have ln : ((rNames.take n).map V.str).length = n := by rw [List.length_map, List.length_take]; omega
    have gt : ∀ i x, ((rNames.take n).map V.str)[i]? = some x → i < n ∧ x = V.str (rNm i) := fun i x e => by
      have il : i < n := by rw [← ln]; exact (List.getElem?_eq_some_iff.mp e).1
      refine ⟨il, ?_⟩
      rw [List.getElem?_map, List.getElem?_take_of_lt il] at e
      unfold rNm
      cases c : rNames[i]? with
      | none => rw [c] at e; cases e
      | some y => rw [c] at e; exact (Option.some.inj e).symm
    have at_ : ∀ i, i < n → ((rNames.take n).map V.str)[i]? = some (V.str (rNm i)) := fun i il => by
      obtain ⟨x, e⟩ : ∃ x, ((rNames.take n).map V.str)[i]? = some x := ⟨_, List.getElem?_eq_getElem (by omega)⟩
      rw [e, (gt i x e).2]
    refine ⟨_, rfl, p1, rfl, ⟨_, SqL.of h2⟩, comp_enum (xs := (rNames.take n).map V.str) (fun i ys H' => Same H2 H' ∧ ∃ zr : List (Addr × Row), ys = zr.map (fun q => V.ref q.1) ∧ zr.map (·.2) = (List.range i).map (rRow n) ∧ ∀ q ∈ zr, KindO C H' q.1 q.2)
      ⟨Same.refl _, [], rfl, rfl, fun _ h => nomatch h⟩ (fun i ys H' z => SqL.of (z.1 _ _ h2)) (fun i ys H' hi z => ?_) ?_ ?_⟩
    · obtain ⟨_, zr, rfl, e, _⟩ := z
      have := congrArg List.length e
      rw [List.length_map, List.length_map, List.length_range] at this
      rw [List.length_map]
      exact small _ (by omega)
    · rintro i x ys H' t hi ⟨s3, zr, rfl, ez, hkz⟩ ft N hN
      obtain ⟨il, rfl⟩ := gt i x hi
      refine pickT (SqT.of upd_same) ?_
      have s4 := s3.trans (Same.new (o := .tup [.int (i : Nat), V.str (rNm i)]) ft)
      have k4 : ∀ q ∈ zr, KindO C (upd H' t (.tup [.int (i : Nat), V.str (rNm i)])) q.1 q.2 := fun q hq => (hkz q hq).mono fun b o e _ => (Same.new ft) _ _ e
      generalize upd H' t (.tup [.int (i : Nat), V.str (rNm i)]) = H4 at s4 k4 ⊢
      refine ⟨_, rfl, Nat.zero_le _, fun lf hlf => ?_⟩
      have s5 : Same H4 (upd H4 lf (.lst [])) := Same.new hlf
      have h5 : (upd H4 lf (.lst [])) lf = some (.lst []) := upd_same
      generalize upd H4 lf (.lst []) = H5 at s5 h5 ⊢
      have s25 := s4.trans s5
      refine ⟨_, rfl, _, rfl, _, _, rfl, rfl, _, rfl, p1, _, rfl, .inl (SqL.of (s25 _ _ h2)), ?_⟩
      rw [ln]
      have em : ((i : Int) + 1) % (n : Int) = (((i + 1) % n : Nat) : Int) := by push_cast; rfl
      have ml : (i + 1) % n < n := Nat.mod_lt _ (by omega)
      refine ⟨_, _, rfl, rfl, (by show (0 : Int) < n; omega), p1, _, _, V.str (rNm ((i + 1) % n)), rfl, rfl, SqL.of (s25 _ _ h2), ?_, ?_⟩
      · show atI _ (((i : Int) + 1) % (n : Int)) = _
        rw [em]
        exact atI_nat (at_ _ ml)
      intro x dx hx hdx ne
      have ow : ∀ o, (rRow n i).owner = some o → nameOk o ∧ o ≠ (rRow n i).name := fun o e => by
        cases e
        exact ⟨rNm_ok _ (by omega), rNm_ne n (by omega) n2 i il⟩
      refine init_own (r := rRow n i) hx hdx ne (rNm_ok i (by omega)) (.lst trivial h5 (Nat.zero_le _) .nil) fields_nil ow fun H8 s8 kd8 => ⟨rfl, hN _ _ ⟨s25.trans s8, zr ++ [(x, rRow n i)], by rw [List.map_append]; rfl, by rw [List.map_append, ez, List.range_succ, List.map_append]; rfl, fun q hq => ?_⟩⟩
      rcases List.mem_append.mp hq with hq | hq
      · exact (k4 q hq).mono fun b o e _ => s8 _ _ (s5 _ _ e)
      · rw [List.mem_singleton.mp hq]
        exact kd8
    · rintro ys H' ⟨s3, zr, rfl, ez, hkz⟩ lg hlg
      rw [ln] at ez
      have s4 := s3.trans (Same.new (o := .lst (zr.map fun q => V.ref q.1)) hlg)
      have k4 : ∀ q ∈ zr, KindO C (upd H' lg (.lst (zr.map fun q => V.ref q.1))) q.1 q.2 := fun q hq => (hkz q hq).mono fun b o e _ => (Same.new hlg) _ _ e
      have hg4 : (upd H' lg (.lst (zr.map fun q => V.ref q.1))) lg = some (.lst (zr.map fun q => V.ref q.1)) := upd_same
      generalize upd H' lg (.lst (zr.map fun q => V.ref q.1)) = H4 at s4 k4 hg4 ⊢
      have zl : zr.length = n := by
        have := congrArg List.length ez
        rw [List.length_map, List.length_map, List.length_range] at this
        exact this
      have kf : ∀ b o, H b = some o → b ≠ p → H4 b = some o := fun b o e nb => s4 _ _ (s2 _ _ (by rw [k1 b nb]; exact s0 _ _ e))
      have nl : l ≠ p := by obtain ⟨_, _, _, e, _⟩ := S0; exact ne_of' hl e
      refine ⟨_, rfl, _, rfl, _, rfl, (1 : Int), rfl, l, _, rfl, SqL.of (kf _ _ hl nl), fun p5 f5 => ?_⟩
      rw [show (1 : Int) = ((1 : Nat) : Int) from rfl, cut_one, ← List.map_take]
      have s5 : Same H4 (upd H4 p5 (.lst ((zs.take 1).map fun q => V.ref q.1))) := Same.new f5
      have h5 : (upd H4 p5 (.lst ((zs.take 1).map fun q => V.ref q.1))) p5 = some (.lst ((zs.take 1).map fun q => V.ref q.1)) := upd_same
      generalize upd H4 p5 (.lst ((zs.take 1).map fun q => V.ref q.1)) = H5 at s5 h5 ⊢
      have z1 := List.length_take_le 1 zs
      refine ⟨lg, p5, _, _, rfl, rfl, s5 _ _ hg4, h5, by rw [List.length_map, List.length_map]; exact small _ (by omega), fun p6 f6 => ?_⟩
      rw [← List.map_append]
      have s6 := s5.trans (Same.new (o := .lst ((zr ++ zs.take 1).map fun q => V.ref q.1)) f6)
      have h6 : (upd H5 p6 (.lst ((zr ++ zs.take 1).map fun q => V.ref q.1))) p6 = some (.lst ((zr ++ zs.take 1).map fun q => V.ref q.1)) := upd_same
      generalize upd H5 p6 (.lst ((zr ++ zs.take 1).map fun q => V.ref q.1)) = H6 at s6 h6 ⊢
      have S6 : Src H6 p (k + 1) := src S1 fun o e => s6 _ _ (s4 _ _ (s2 _ _ e))
      have n6 : p6 ≠ p := by obtain ⟨_, _, _, e, _⟩ := S6; exact ne_of' h6 e
      refine ⟨p, p6, _, k + 1, rfl, SqL.of h6, n6, S6, by omega, by rw [List.length_map, List.length_append]; omega, by rw [List.length_map, List.length_append]; omega, fun q7 ta tb H7 h7 f7 S7 k7 => ?_⟩
      rw [turnL_map] at h7
      have mem : ∀ y, y ∈ turnL ta tb (zr ++ zs.take 1) ↔ y ∈ zr ∨ y ∈ zs.take 1 := fun y => by rw [(turnL_perm ta tb _).mem_iff, List.mem_append]
      have kk : ∀ {x : Addr} {r : Row}, KindO C H6 x r → KindO C H7 x r := fun ⟨dx, l, e⟩ => ⟨dx, l, k7 _ _ e (by obtain ⟨_, _, _, e', _⟩ := S6; exact ne_of e e' (fun z => nomatch z))⟩
      have row : ∀ y ∈ zr, ∃ i, i < n ∧ y.2 = rRow n i := fun y hy => by
        have : y.2 ∈ (List.range n).map (rRow n) := by rw [← ez]; exact List.mem_map.mpr ⟨y, hy, rfl⟩
        obtain ⟨i, hi, e⟩ := List.mem_map.mp this
        exact ⟨i, List.mem_range.mp hi, e.symm⟩
      have inr : ∀ i, i < n → ∃ y ∈ zr, y.2 = rRow n i := fun i hi => by
        have : rRow n i ∈ zr.map (·.2) := by rw [ez]; exact List.mem_map.mpr ⟨i, List.mem_range.mpr hi, rfl⟩
        obtain ⟨y, hy, e⟩ := List.mem_map.mp this
        exact ⟨y, hy, e⟩
      refine q _ _ ⟨noKs_of h7 (fun y hy => ?_) ?_ ?_ (fun y hy => ?_) (fun nd7 => ?_), S7.mono (by omega), fun b o e nb => k7 _ _ (s6 _ _ (kf b o e nb)) nb⟩
      · rcases (mem y).mp hy with hy | hy
        · exact kk ((k4 y hy).mono fun b o e _ => s6 _ _ e)
        · obtain ⟨dx, lf, e⟩ := hz y (List.mem_of_mem_take hy)
          exact kk ⟨dx, lf, s6 _ _ (kf _ _ e (by obtain ⟨_, _, _, e', _⟩ := S0; exact ne_of e e' (fun z => nomatch z)))⟩
      · rw [turnL_len, List.length_append]; omega
      · rw [turnL_len, List.length_append]; omega
      · rcases (mem y).mp hy with hy | hy
        · obtain ⟨i, hi, e⟩ := row y hy
          rw [e]
          exact rNm_ok i (by omega)
        · exact ho y (List.mem_of_mem_take hy)
      · have nd8 : ((zr ++ zs.take 1).map fun q => q.2.name).Nodup := ((turnL_perm ta tb _).map _).nodup_iff.mp nd7
        rw [List.map_append, List.nodup_append] at nd8
        refine stuck_of (zr.map fun q => q.2.name) ?_ ?_
        · obtain ⟨y, hy, e⟩ := inr 0 (by omega)
          exact ⟨y.2, List.mem_map.mpr ⟨y, (mem y).mpr (.inl hy), rfl⟩, List.mem_map.mpr ⟨y, hy, rfl⟩⟩
        · intro r hr hn
          obtain ⟨y, hy, rfl⟩ := List.mem_map.mp hr
          rcases (mem y).mp hy with hy | hy
          · obtain ⟨i, hi, e⟩ := row y hy
            refine ⟨rNm ((i + 1) % n), by rw [e]; rfl, .inl ?_⟩
            obtain ⟨y', hy', e'⟩ := inr ((i + 1) % n) (Nat.mod_lt _ (by omega))
            exact List.mem_map.mpr ⟨y', hy', by rw [e']; rfl⟩
          · exact absurd rfl (nd8.2.2 _ hn _ (List.mem_map.mpr ⟨y, hy, rfl⟩))
end
end L2.W
-- MOD K5O
namespace L2.W
open PySem My
/-! ### what makes no kinds -/
structure KNo (K : PySem.W.Frag) (C : Addr) : Prop where
  lst : PySem.W.kitOne K (.ref C) (.type "list") = some false
  s : PySem.W.kitOne K (.type "str") (.ref C) = some false
  n : PySem.W.kitOne K (.type "NoneType") (.ref C) = some false
  t : PySem.W.kitOne K (.type "tuple") (.ref C) = some false
  b : PySem.W.kitOne K (.type "bool") (.ref C) = some false
  i : PySem.W.kitOne K (.type "int") (.ref C) = some false
  l : PySem.W.kitOne K (.type "list") (.ref C) = some false
theorem mid {K : PySem.W.Frag} {σ : St} {H : Hp} {l : Addr} {xs : List V} {a : Nat} {tv : TE} {Q : VK} (h1 : σ[1]? = some (some (.ref l))) (h3 : σ[3]? = some (some (.int (a : Nat)))) (ha : a ≤ xs.length) (hx : xs.length ≤ 900) (hl : H l = some (.lst xs))
    (hv : ∀ p1, H p1 = none → ∀ R : VK, (∀ v H1, H1 l = some (.lst xs) → H1 p1 = some (.lst (xs.take a)) → (∀ q H2, Same H1 H2 → H2 q = some (.lst (xs.take a ++ v :: xs.drop a)) → Q (.ref q) H2) → R v H1) → tv σ (upd H p1 (.lst (xs.take a))) R) :
    tOp rCat (tOp rCat (tSl (rSlL K) (tVar 1) tNoPart (tPart (tVar 3))) (tLst (tCons tv tNil))) (tSl (rSlL K) (tVar 1) (tPart (tVar 3)) tNoPart) σ H Q := by
  have small : ∀ n : Nat, n ≤ 1000 → n ≤ sizeLine := fun n h => Nat.le_of_lt (small1000 h)
  refine ⟨_, h1, _, h3, (a : Int), rfl, l, xs, rfl, SqL.of hl, fun p1 f1 => ?_⟩
  have e2 := cut_to (xs := xs) (a := a) ha
  rw [e2]
  refine hv p1 f1 _ fun v H1 hl1 hp1 k => ⟨by show 1 ≤ sizeLine; exact small 1 (by decide), fun p2 f2 => ?_⟩
  have s2 : Same H1 (upd H1 p2 (.lst [v])) := Same.new f2
  have h2 : (upd H1 p2 (.lst [v])) p2 = some (.lst [v]) := upd_same
  generalize upd H1 p2 (.lst [v]) = H2 at s2 h2 ⊢
  have tl := List.length_take_le a xs
  refine ⟨p1, p2, _, _, rfl, rfl, s2 _ _ hp1, h2, by show _ + 1 ≤ _; exact small _ (by omega), fun p4 f4 => ?_⟩
  have s4 := s2.trans (Same.new (o := .lst (xs.take a ++ [v])) f4)
  have h4 : (upd H2 p4 (.lst (xs.take a ++ [v]))) p4 = some (.lst (xs.take a ++ [v])) := upd_same
  generalize upd H2 p4 (.lst (xs.take a ++ [v])) = H4 at s4 h4 ⊢
  refine ⟨_, h1, _, h3, (a : Int), rfl, l, xs, rfl, SqL.of (s4 _ _ hl1), fun p5 f5 => ?_⟩
  rw [cut_from (xs := xs) (a := a) ha]
  have s5 := s4.trans (Same.new (o := .lst (xs.drop a)) f5)
  have h5 : (upd H4 p5 (.lst (xs.drop a))) p5 = some (.lst (xs.drop a)) := upd_same
  have h45 := (Same.new (o := .lst (xs.drop a)) f5) _ _ h4
  generalize upd H4 p5 (.lst (xs.drop a)) = H5 at s5 h5 h45 ⊢
  refine ⟨p4, p5, _, _, rfl, rfl, h45, h5, by rw [List.length_append, List.length_drop]; exact small _ (by show _ + 1 + _ ≤ _; omega), fun p6 f6 => k p6 _ (s5.trans (Same.new f6)) ?_⟩
  rw [upd_same, List.append_assoc]
  rfl
theorem fields_xy : FieldsOk [("x", ["y"])] := ⟨by decide, by decide +kernel, (fun f h => by rw [List.mem_singleton.mp h]; exact ⟨by unfold nameOk; decide +kernel, by decide, by decide, by decide +kernel, fun x hx => by rw [List.mem_singleton.mp hx]; unfold nameOk; decide +kernel⟩), by decide⟩
theorem name_zz : nameOk "zz" := by unfold nameOk; decide +kernel
theorem paired_app {α β : Type} {R : α → β → Prop} {l l' : List α} {m m' : List β} (h : Paired R l m) (h' : Paired R l' m') : Paired R (l ++ l') (m ++ m') := by
  induction h with
  | nil => exact h'
  | cons r t ih => exact .cons r ih
theorem kinds_ty {K : PySem.W.Frag} {mg : Str → Option Value} {C fI : Addr} {H : Hp} {zs : List (Addr × Row)} (KC : KCls K mg C fI) (KI : KIsi K C) (h : ∀ q ∈ zs, KindO C H q.1 q.2) : Paired (TyK K C H) (zs.map fun q => V.ref q.1) (zs.map fun _ => true) := by
  induction zs with
  | nil => exact .nil
  | cons q t ih =>
    obtain ⟨dx, l, e⟩ := h q List.mem_cons_self
    exact .cons ⟨_, .ins e KC.cl KI.ha KI.hn KI.htk KI.hm, KI.one⟩ (ih fun q' h' => h q' (List.mem_cons_of_mem _ h'))
theorem odd_ak {K : PySem.W.Frag} {mg : Str → Option Value} {C fI : Addr} {H : Hp} {zs : List (Addr × Row)} {l : Addr} {a : Nat} {v : V} (KC : KCls K mg C fI) (KI : KIsi K C) (h : ∀ q ∈ zs, KindO C H q.1 q.2) (hz : zs.length ≤ 40) (ty : TyK K C H v false)
    (e : H l = some (.lst ((zs.map fun q => V.ref q.1).take a ++ v :: (zs.map fun q => V.ref q.1).drop a))) : NoKs K C H (.ref l) := by
  rw [← List.map_take, ← List.map_drop] at e
  refine .ak (.odd e ?_ ?_ (paired_app (kinds_ty KC KI fun q hq => h q (List.mem_of_mem_take hq)) (.cons ty (kinds_ty KC KI fun q hq => h q (List.mem_of_mem_drop hq)))) ?_)
  · rw [List.length_append, List.length_cons]; omega
  · rw [List.length_append, List.length_cons, List.length_map, List.length_map, List.length_take, List.length_drop]; omega
  · rw [List.all_append, List.all_cons]
    show (_ && (false && _)) = false
    rw [Bool.false_and, Bool.and_false]
theorem mid_perm {α : Type} (zs : List α) (a : Nat) (y : α) : (zs.take a ++ y :: zs.drop a).Perm (y :: zs) := by
  have := List.perm_middle (a := y) (l₁ := zs.take a) (l₂ := zs.drop a)
  rw [List.take_append_drop] at this
  exact this
theorem mid_no {K : PySem.W.Frag} {C : Addr} {H : Hp} {zs : List (Addr × Row)} {l : Addr} {a : Nat} {y : Addr × Row} (h : ∀ q ∈ zs, KindO C H q.1 q.2) (hy : KindO C H y.1 y.2) (hz : zs.length ≤ 40) (ho : ∀ q ∈ zs, nameOk q.2.name) (oy : nameOk y.2.name)
    (e : H l = some (.lst ((zs.map fun q => V.ref q.1).take a ++ V.ref y.1 :: (zs.map fun q => V.ref q.1).drop a))) (st : (∃ q ∈ zs, q.2.name = y.2.name) ∨ ∃ o, y.2.owner = some o ∧ y.2.name ≠ o ∧ ∀ q ∈ zs, q.2.name ≠ o) : NoKs K C H (.ref l) := by
  have pm := mid_perm zs a y
  have mem : ∀ z, z ∈ zs.take a ++ y :: zs.drop a ↔ z = y ∨ z ∈ zs := fun z => by rw [pm.mem_iff, List.mem_cons]
  have ln := pm.length_eq
  rw [List.length_cons] at ln
  refine noKs_of (zs := zs.take a ++ y :: zs.drop a) ?_ (fun z hz => ?_) (by omega) (by omega) (fun z hz => ?_) fun nd => ?_
  · rw [e, List.map_append, List.map_cons, List.map_take, List.map_drop]
  · rcases (mem z).mp hz with e | hz
    · rw [e]; exact hy
    · exact h z hz
  · rcases (mem z).mp hz with e | hz
    · rw [e]; exact oy
    · exact ho z hz
  · have nd2 := (pm.map fun q => q.2.name).nodup_iff.mp nd
    rw [List.map_cons, List.nodup_cons] at nd2
    rcases st with ⟨q, hq, e⟩ | ⟨o, eo, n1, n2⟩
    · exact absurd (List.mem_map.mpr ⟨q, hq, e⟩) nd2.1
    · refine stuck_of [y.2.name] ⟨y.2, List.mem_map.mpr ⟨y, (mem y).mpr (.inl rfl), rfl⟩, List.mem_singleton.mpr rfl⟩ fun r hr hn => ?_
      obtain ⟨z, hz, rfl⟩ := List.mem_map.mp hr
      rcases (mem z).mp hz with e | hz
      · subst e
        refine ⟨o, eo, .inr fun r' hr' => ?_⟩
        obtain ⟨z', hz', rfl⟩ := List.mem_map.mp hr'
        rcases (mem z').mp hz' with e | hz'
        · rw [e]; exact n1
        · exact n2 z' hz'
      · exact absurd (List.mem_map.mpr ⟨z, hz, List.mem_singleton.mp hn⟩) nd2.1
noncomputable def spBad (K : PySem.W.Frag) (C : Addr) : Sp := fun vs H Q _ => ∃ (p l : Addr) (k : Int) (zs : List (Addr × Row)), vs = [.ref p, .ref l] ∧ Src H p k ∧ k ≤ 800000 ∧ H l = some (.lst (zs.map fun q => V.ref q.1)) ∧ (∀ q ∈ zs, KindO C H q.1 q.2) ∧ (∀ q ∈ zs, nameOk q.2.name) ∧ 0 < zs.length ∧ zs.length ≤ 5 ∧ ∀ v H', NoK K C p (k + 6) H v H' → Q v H'
section
variable {P : Program} {w : World} {K : PySem.W.Frag} {mg : Str → Option Value} {base : Heap} {CX : CXT}
theorem scBa : FnScope ["_law_source", "_law_kinds", "_law_way", "_law_at", "_law_odd"] ["_law_source", "_law_kinds"] (defScope sBad) := ⟨rfl, rfl, rfl, by decide +kernel, rfl, by decide +kernel, by decide +kernel⟩
theorem ok_bad {f C fI fT fm fn fR : Addr} {fd fdI fdT fdm fdn fdR : FuncData} (hC : Calm CX) (T : Tops K mg) (KC : KCls K mg C fI) (KI : KIsi K C) (KN : KNo K C) (GK : FnOk P w K mg base CX 5 fI fdI ["self", "name", "fields", "owner"] (spInit C)) (bK : Binds K fdI ["self", "name", "fields", "owner"] []) (bK2 : Binds K fdI ["self", "name", "fields", "owner"] [.none]) (F : Fun K "_law_bad" "_law_bad" sBad f fd)
    (DM : Def K mg "_law_mixed" sMixed ["_law_cell", "_law_k"] fm fdm) (DN : Def K mg "_law_next" sNext ["_law_source", "_law_many"] fn fdn) (DT : Def K mg "_law_turned" sTurned ["_law_source", "_law_things"] fT fdT) (DR : Def K mg "_law_ring" sRing ["_law_source", "_law_kinds"] fR fdR) : FnOk P w K mg base CX 8 f fd ["_law_source", "_law_kinds"] (spBad K C) := by
  have GN : FnOk P w K mg base CX 2 fn fdn ["_law_source", "_law_many"] spNext := ok_next hC DN.fn DM
  have GR : FnOk P w K mg base CX 7 fR fdR ["_law_source", "_law_kinds"] (spRing K C) := ok_ring hC T KC GK bK DR.fn DM DN DT
  refine Fun.okC F scBa (fun vs H Q E h => ?_) (fun cdv A outer s H vs Q E hr h => ?_)
  · obtain ⟨p, l, k, zs, rfl, _⟩ := h
    rfl
  · obtain ⟨p, l, k, zs, rfl, S0, hk, hl, hz, ho, z0, z5, q⟩ := h
    have nd := scBa.nd
    have hr2 := hr.mono (show 2 ≤ 7 by decide)
    have hr6 := hr.mono (show 6 ≤ 7 by decide)
    have dv : Vals [.non] [Value.none] := .cons rfl .nil
    refine ⟨_, pss_cons (ps_set (i := 2) nd rfl (Or.inl rfl) (pe_call GN hr2 rfl DN.at_ DN.fn.kp DN.bind .nil (passC hC) (pa_cons (pv 0) (pa_cons pe_int pa_nil))))
      (pss_cons (ps_set (i := 3) nd rfl (Or.inl rfl) (pe_call GN hr2 rfl DN.at_ DN.fn.kp DN.bind .nil (passC hC) (pa_cons (pv 0) (pa_cons (pe_op op_add (pe_callB call_len_seq rfl T.len PySem.boot_len (pa_cons (pv 1) pa_nil)) pe_int) pa_nil))))
      (pss_cons (ps_if (pt_cmpR op_eq (pv 2) pe_int (nomark _)) (pss_one (ps_ret (pe_ix ix_list (pe_lst (pa_cons (pe_lst pa_nil) (pa_cons pe_non (pa_cons (pe_callTy call_tuple_of rfl T.tuple PyProof.Rows.boot_tuple (pa_cons (pv 1) pa_nil)) (pa_cons (pe_ix ix_list (pv 1) pe_int (fun _ _ => rfl)) (pa_cons pe_dnewK (pa_cons pe_str (pa_cons pe_int pa_nil)))))))) (pe_call GN hr2 rfl DN.at_ DN.fn.kp DN.bind .nil (passC hC) (pa_cons (pv 0) (pa_cons pe_int pa_nil))) (fun _ _ => rfl)))) pss_nil)
      (pss_cons (ps_if (pt_cmpR op_eq (pv 2) pe_int (nomark _)) (pss_cons (ps_set (i := 4) nd rfl (Or.inl rfl) (pe_ix ix_list (pe_lst (pa_cons pe_str (pa_cons pe_non (pa_cons (pe_tup (pa_cons pe_str (pa_cons (pe_lst pa_nil) pa_nil))) (pa_cons pe_bl (pa_cons pe_int (pa_cons (pe_lst (pa_cons (pe_ix ix_list (pv 1) pe_int (fun _ _ => rfl)) pa_nil)) pa_nil))))))) (pe_call GN hr2 rfl DN.at_ DN.fn.kp DN.bind .nil (passC hC) (pa_cons (pv 0) (pa_cons pe_int pa_nil))) (fun _ _ => rfl)))
          (pss_one (ps_ret (pe_op op_cat (pe_op op_cat (pe_slice sl_list (pv 1) po_none (po_some (pv 3))) (pe_lst (pa_cons (pv 4) pa_nil))) (pe_slice sl_list (pv 1) (po_some (pv 3)) po_none))))) pss_nil)
      (pss_cons (ps_if (pt_cmpR op_eq (pv 2) pe_int (nomark _)) (pss_one (ps_ret (pe_op op_cat (pe_op op_cat (pe_slice sl_list (pv 1) po_none (po_some (pv 3))) (pe_lst (pa_cons (pe_ix ix_list (pv 1) (pe_call GN hr2 rfl DN.at_ DN.fn.kp DN.bind .nil (passC hC) (pa_cons (pv 0) (pa_cons (pe_callB call_len_seq rfl T.len PySem.boot_len (pa_cons (pv 1) pa_nil)) pa_nil))) (fun _ _ => rfl)) pa_nil))) (pe_slice sl_list (pv 1) (po_some (pv 3)) po_none)))) pss_nil)
      (pss_cons (ps_if (pt_cmpR op_eq (pv 2) pe_int (nomark _)) (pss_one (ps_ret (pe_op op_cat (pe_op op_cat (pe_slice sl_list (pv 1) po_none (po_some (pv 3))) (pe_lst (pa_cons (pe_make KC.mkd GK hr6 rfl KC.mgC bK2 dv (passC hC) (pa_cons (pe_fld (pe_ix ix_list (pv 1) pe_int (fun _ _ => rfl)) rfl) (pa_cons (pe_lst (pa_cons (pe_tup (pa_cons pe_str (pa_cons (pe_lst (pa_cons pe_str pa_nil)) pa_nil))) pa_nil)) pa_nil))) pa_nil))) (pe_slice sl_list (pv 1) (po_some (pv 3)) po_none)))) pss_nil)
      (pss_cons (ps_if (pt_cmpR op_eq (pv 2) pe_int (nomark _)) (pss_one (ps_ret (pe_op op_cat (pe_op op_cat (pe_slice sl_list (pv 1) po_none (po_some (pv 3))) (pe_lst (pa_cons (pe_make KC.mkd GK hr6 rfl KC.mgC bK .nil (passC hC) (pa_cons pe_str (pa_cons (pe_lst pa_nil) (pa_cons pe_str pa_nil)))) pa_nil))) (pe_slice sl_list (pv 1) (po_some (pv 3)) po_none)))) pss_nil)
      (pss_one (ps_ret (pe_call GR hr rfl DR.at_ DR.fn.kp DR.bind .nil (passC hC) (pa_cons (pv 0) (pa_cons (pe_comp (T := ["_law_kind"]) rfl ScOk.auto (pi_list (pv 1)) (fun _ _ _ _ => pg_name (i := 5) (by decide +kernel : (["_law_source", "_law_kinds", "_law_way", "_law_at", "_law_odd", "_law_kind"] : List Str).Nodup) rfl (Or.inl rfl)) (fun _ _ _ _ => pf_one (pt_cmp (pc_isN (pe_fldK (K := K) rfl (pv 5) rfl)))) (fun _ _ _ _ => pv 5)) pa_nil))))))))))), ?_⟩
    have small : ∀ n : Nat, n ≤ 1000 → n ≤ sizeLine := fun n h => Nat.le_of_lt (small1000 h)
    have src : ∀ {H1 H2 : Hp} {j : Int}, Src H1 p j → (∀ o, H1 p = some o → H2 p = some o) → Src H2 p j := fun ⟨a, c, i, e, r⟩ h => ⟨a, c, i, h _ e, r⟩
    have nl : l ≠ p := by obtain ⟨_, _, _, e, _⟩ := S0; exact ne_of' hl e
    refine ⟨_, rfl, p, 6, k, rfl, S0, by omega, by decide, by decide, fun way H1 w0 w1 S1 k1 => ?_⟩
    refine ⟨_, rfl, _, rfl, l, _, rfl, .inl (SqL.of (by rw [k1 _ nl]; exact hl)), _, _, rfl, rfl, p, _, k + 1, rfl, S1, by omega, by rw [List.length_map]; omega, by rw [List.length_map]; omega, fun at_ H2 a0 a1 S2 k2 => ?_⟩
    obtain ⟨a, rfl⟩ : ∃ a : Nat, at_ = (a : Int) := ⟨at_.toNat, by omega⟩
    rw [List.length_map] at a1
    have fr : ∀ b o, H b = some o → b ≠ p → H2 b = some o := fun b o e nb => by rw [k2 b nb, k1 b nb]; exact e
    have hl2 := fr _ _ hl nl
    have hz2 : ∀ y ∈ zs, KindO C H2 y.1 y.2 := fun y hy => by
      obtain ⟨dx, lf, e⟩ := hz y hy
      exact ⟨dx, lf, fr _ _ e (by obtain ⟨_, _, _, e', _⟩ := S0; exact ne_of e e' (fun z => nomatch z))⟩
    have q2 : ∀ v H', NoK K C p (k + 6) H2 v H' → Q v H' := fun v H' ⟨x, y, z⟩ => q v H' ⟨x, y, fun b o e nb => z b o (fr b o e nb) nb⟩
    clear q hz hl S0 S1 k1 k2 fr
    have ml : (zs.map fun q => V.ref q.1).length = zs.length := List.length_map _
    obtain ⟨z1, hz1, e1⟩ : ∃ z1 ∈ zs, (zs.map fun q => V.ref q.1)[0]? = some (V.ref z1.1) := by
      cases zs with
      | nil => cases z0
      | cons z1 zt => exact ⟨z1, List.mem_cons_self, rfl⟩
    have no : ∀ {i j : Int}, i ≠ j → decide (V.int i = V.int j) = false := fun {i j} n => decide_eq_false fun z => n (by injection z)
    have keep : ∀ {H3 : Hp}, (∀ b o, H2 b = some o → b ≠ p → H3 b = some o) → H3 l = some (.lst (zs.map fun q => V.ref q.1)) ∧ ∀ y ∈ zs, KindO C H3 y.1 y.2 := fun {H3} h => ⟨h _ _ hl2 nl, fun y hy => by
      obtain ⟨dx, lf, e⟩ := hz2 y hy
      exact ⟨dx, lf, h _ _ e (by obtain ⟨_, _, _, e', _⟩ := S2; exact ne_of e e' (fun z => nomatch z))⟩⟩
    refine ⟨_, rfl, rfl, _, rfl, ?_⟩
    by_cases c0 : way = 0
    · subst c0
      rw [decide_eq_true rfl]
      refine iteT ?_
      refine ⟨Nat.zero_le _, fun p3 f3 => ?_⟩
      have s3 : Same H2 (upd H2 p3 (.lst [])) := Same.new f3
      have h3 : (upd H2 p3 (.lst [])) p3 = some (.lst []) := upd_same
      generalize upd H2 p3 (.lst []) = H3 at s3 h3 ⊢
      refine ⟨_, rfl, l, _, rfl, .inl ⟨SqL.of (s3 _ _ hl2), fun p4 f4 => ?_⟩⟩
      have s4 : Same H3 (upd H3 p4 (.tup (zs.map fun q => V.ref q.1))) := Same.new f4
      have h4 : (upd H3 p4 (.tup (zs.map fun q => V.ref q.1))) p4 = some (.tup (zs.map fun q => V.ref q.1)) := upd_same
      generalize upd H3 p4 (.tup (zs.map fun q => V.ref q.1)) = H4 at s4 h4 ⊢
      refine ⟨_, rfl, l, _, ((0 : Nat) : Int), _, rfl, rfl, SqL.of (s4 _ _ (s3 _ _ hl2)), atI_nat e1, fun p5 f5 => ?_⟩
      have s5 : Same H4 (upd H4 p5 (.dK [])) := Same.new f5
      have h5 : (upd H4 p5 (.dK [])) p5 = some (.dK []) := upd_same
      generalize upd H4 p5 (.dK []) = H5 at s5 h5 ⊢
      refine ⟨by show 7 ≤ sizeLine; exact small 7 (by decide), fun p6 f6 => ?_⟩
      have s6 : Same H5 (upd H5 p6 (.lst [.ref p3, .non, .ref p4, .ref z1.1, .ref p5, .str "a", .int 3])) := Same.new f6
      have h6 : (upd H5 p6 (.lst [.ref p3, .non, .ref p4, .ref z1.1, .ref p5, .str "a", .int 3])) p6 = some (.lst [.ref p3, .non, .ref p4, .ref z1.1, .ref p5, .str "a", .int 3]) := upd_same
      generalize upd H5 p6 (.lst [.ref p3, .non, .ref p4, .ref z1.1, .ref p5, .str "a", .int 3]) = H6 at s6 h6 ⊢
      have s26 := s3.trans (s4.trans (s5.trans s6))
      have S6 : Src H6 p (k + 2) := (src S2 fun o e => s26 _ _ e).mono (by omega)
      refine ⟨_, rfl, p, 7, k + 2, rfl, S6, by omega, by decide, by decide, fun r H7 r0 r1 S7 k7 => ?_⟩
      have f7 : ∀ b o, H2 b = some o → b ≠ p → H7 b = some o := fun b o e nb => by rw [k7 b nb]; exact s26 _ _ e
      have np : ∀ {b : Addr} {u : HO}, H6 b = some u → (∀ a b c : Int, u ≠ .lst [.int a, .int b, .int c]) → H7 b = some u := fun {b u} e n => by
        obtain ⟨a, b', c, e', _⟩ := S6
        rw [k7 b (ne_of e e' (n a b' c))]
        exact e
      have h67 := np h6 fun _ _ _ z => nomatch z
      obtain ⟨dx1, lf1, ek⟩ := (keep f7).2 z1 hz1
      have fin : ∀ v, AK K C H7 v false → Q v H7 := fun v ak => q2 _ _ ⟨.ak ak, S7.mono (by omega), f7⟩
      obtain ⟨j, rfl⟩ : ∃ j : Nat, r = (j : Int) := ⟨r.toNat, by omega⟩
      obtain ⟨v, ev, hv⟩ : ∃ v, ([.ref p3, .non, .ref p4, .ref z1.1, .ref p5, .str "a", .int 3] : List V)[j]? = some v ∧ AK K C H7 v false := by
        have j7 : j < 7 := by omega
        match j, j7 with
        | 0, _ => exact ⟨_, rfl, .emp (np (s6 _ _ (s5 _ _ (s4 _ _ h3))) fun _ _ _ z => nomatch z)⟩
        | 1, _ => exact ⟨_, rfl, .noL .non rfl⟩
        | 2, _ => exact ⟨_, rfl, .noL (.tup (np (s6 _ _ (s5 _ _ h4)) fun _ _ _ z => nomatch z)) rfl⟩
        | 3, _ => exact ⟨_, rfl, .noL (.ins ek KC.cl KI.ha KI.hn KI.htk KI.hm) KN.lst⟩
        | 4, _ => exact ⟨_, rfl, .noL (.dK (np (s6 _ _ h5) fun _ _ _ z => nomatch z)) rfl⟩
        | 5, _ => exact ⟨_, rfl, .noL (.str _) rfl⟩
        | 6, _ => exact ⟨_, rfl, .noL (.int _) rfl⟩
      exact ⟨p6, _, _, v, rfl, rfl, SqL.of h67, atI_nat ev, fin v hv⟩
    rw [no c0]
    refine iteF ⟨_, rfl, rfl, _, rfl, ?_⟩
    by_cases c1 : way = 1
    · subst c1
      rw [decide_eq_true rfl]
      refine iteT ?_
      refine ⟨Nat.zero_le _, fun p3 f3 => ?_⟩
      have s3 : Same H2 (upd H2 p3 (.lst [])) := Same.new f3
      generalize upd H2 p3 (.lst []) = H3 at s3 ⊢
      refine ⟨by show 2 ≤ sizeLine; exact small 2 (by decide), fun p4 f4 => ?_⟩
      have s4 : Same H3 (upd H3 p4 (.tup [.str "a", .ref p3])) := Same.new f4
      have h4 : (upd H3 p4 (.tup [.str "a", .ref p3])) p4 = some (.tup [.str "a", .ref p3]) := upd_same
      generalize upd H3 p4 (.tup [.str "a", .ref p3]) = H4 at s4 h4 ⊢
      refine ⟨_, rfl, l, _, ((0 : Nat) : Int), _, rfl, rfl, SqL.of (s4 _ _ (s3 _ _ hl2)), atI_nat e1, by show 1 ≤ sizeLine; exact small 1 (by decide), fun p5 f5 => ?_⟩
      have s5 : Same H4 (upd H4 p5 (.lst [.ref z1.1])) := Same.new f5
      have h5 : (upd H4 p5 (.lst [.ref z1.1])) p5 = some (.lst [.ref z1.1]) := upd_same
      generalize upd H4 p5 (.lst [.ref z1.1]) = H5 at s5 h5 ⊢
      refine ⟨by show 6 ≤ sizeLine; exact small 6 (by decide), fun p6 f6 => ?_⟩
      have s6 : Same H5 (upd H5 p6 (.lst [.str "a", .non, .ref p4, .bl true, .int 5, .ref p5])) := Same.new f6
      have h6 : (upd H5 p6 (.lst [.str "a", .non, .ref p4, .bl true, .int 5, .ref p5])) p6 = some (.lst [.str "a", .non, .ref p4, .bl true, .int 5, .ref p5]) := upd_same
      generalize upd H5 p6 (.lst [.str "a", .non, .ref p4, .bl true, .int 5, .ref p5]) = H6 at s6 h6 ⊢
      have s26 := s3.trans (s4.trans (s5.trans s6))
      have S6 : Src H6 p (k + 2) := (src S2 fun o e => s26 _ _ e).mono (by omega)
      refine ⟨_, rfl, p, 6, k + 2, rfl, S6, by omega, by decide, by decide, fun r H7 r0 r1 S7 k7 => ?_⟩
      have f7 : ∀ b o, H2 b = some o → b ≠ p → H7 b = some o := fun b o e nb => by rw [k7 b nb]; exact s26 _ _ e
      have np : ∀ {b : Addr} {u : HO}, H6 b = some u → (∀ a b c : Int, u ≠ .lst [.int a, .int b, .int c]) → H7 b = some u := fun {b u} e n => by
        obtain ⟨a, b', c, e', _⟩ := S6
        rw [k7 b (ne_of e e' (n a b' c))]
        exact e
      have h67 := np h6 fun _ _ _ z => nomatch z
      obtain ⟨j, rfl⟩ : ∃ j : Nat, r = (j : Int) := ⟨r.toNat, by omega⟩
      obtain ⟨v, ev, hv⟩ : ∃ v, ([.str "a", .non, .ref p4, .bl true, .int 5, .ref p5] : List V)[j]? = some v ∧ TyK K C H7 v false := by
        have j7 : j < 6 := by omega
        match j, j7 with
        | 0, _ => exact ⟨_, rfl, _, .str _, KN.s⟩
        | 1, _ => exact ⟨_, rfl, _, .non, KN.n⟩
        | 2, _ => exact ⟨_, rfl, _, .tup (np (s6 _ _ (s5 _ _ h4)) fun _ _ _ z => nomatch z), KN.t⟩
        | 3, _ => exact ⟨_, rfl, _, .bl _, KN.b⟩
        | 4, _ => exact ⟨_, rfl, _, .int _, KN.i⟩
        | 5, _ => exact ⟨_, rfl, _, .lst (np (s6 _ _ h5) fun _ _ _ z => nomatch z), KN.l⟩
      refine ⟨p6, _, _, v, rfl, rfl, SqL.of h67, atI_nat ev, ?_⟩
      refine mid rfl rfl (by omega) (by omega) (keep f7).1 fun p8 f8 R hR => ⟨_, rfl, hR _ _ ((Same.new f8) _ _ (keep f7).1) upd_same fun q9 H9 s9 h9 => ?_⟩
      have s79 := (Same.new f8).trans s9
      have f9 : ∀ b o, H2 b = some o → b ≠ p → H9 b = some o := fun b o e nb => s79 _ _ (f7 b o e nb)
      obtain ⟨t, ty, kt⟩ := hv
      exact q2 _ _ ⟨odd_ak KC KI (keep f9).2 (by omega) ⟨t, ty_same s79 ty, kt⟩ h9, (src S7 fun o e => s79 _ _ e).mono (by omega), f9⟩
    rw [no c1]
    refine iteF ⟨_, rfl, rfl, _, rfl, ?_⟩
    by_cases c2 : way = 2
    · subst c2
      rw [decide_eq_true rfl]
      refine iteT (mid rfl rfl (by omega) (by omega) hl2 fun p1 f1 R hR => ?_)
      have s3 : Same H2 (upd H2 p1 (.lst ((zs.map fun q => V.ref q.1).take a))) := Same.new f1
      have h3 : (upd H2 p1 (.lst ((zs.map fun q => V.ref q.1).take a))) p1 = some (.lst ((zs.map fun q => V.ref q.1).take a)) := upd_same
      have np : p1 ≠ p := by obtain ⟨_, _, _, e, _⟩ := S2; exact Ne.symm (ne_of_none e f1)
      generalize upd H2 p1 (.lst ((zs.map fun q => V.ref q.1).take a)) = H3 at s3 h3 ⊢
      refine ⟨_, rfl, _, rfl, _, rfl, l, _, rfl, .inl (SqL.of (s3 _ _ hl2)), p, _, k + 2, rfl, (src S2 fun o e => s3 _ _ e).mono (by omega), by omega, by rw [ml]; omega, by rw [ml]; omega, fun r H4 r0 r1 S4 k4 => ?_⟩
      obtain ⟨j, rfl⟩ : ∃ j : Nat, r = (j : Int) := ⟨r.toNat, by omega⟩
      rw [ml] at r1
      have f4 : ∀ b o, H2 b = some o → b ≠ p → H4 b = some o := fun b o e nb => by rw [k4 b nb]; exact s3 _ _ e
      have ej : (zs.map fun q => V.ref q.1)[j]? = some (V.ref (zs[j]'(by omega)).1) := by rw [List.getElem?_map, List.getElem?_eq_getElem (by omega)]; rfl
      have mj : zs[j]'(by omega) ∈ zs := List.getElem_mem _
      refine ⟨l, _, _, _, rfl, rfl, SqL.of (keep f4).1, atI_nat ej, hR _ _ (keep f4).1 (by rw [k4 _ np]; exact h3) fun q5 H5 s5 h5 => ?_⟩
      have f5 : ∀ b o, H2 b = some o → b ≠ p → H5 b = some o := fun b o e nb => s5 _ _ (f4 b o e nb)
      exact q2 _ _ ⟨mid_no (keep f5).2 ((keep f5).2 _ mj) (by omega) ho (ho _ mj) h5 (.inl ⟨_, mj, rfl⟩), (src S4 fun o e => s5 _ _ e).mono (by omega), f5⟩
    rw [no c2]
    refine iteF ⟨_, rfl, rfl, _, rfl, ?_⟩
    by_cases c3 : way = 3
    · subst c3
      rw [decide_eq_true rfl]
      refine iteT (mid rfl rfl (by omega) (by omega) hl2 fun p1 f1 R hR => ?_)
      have s3 : Same H2 (upd H2 p1 (.lst ((zs.map fun q => V.ref q.1).take a))) := Same.new f1
      have h3 : (upd H2 p1 (.lst ((zs.map fun q => V.ref q.1).take a))) p1 = some (.lst ((zs.map fun q => V.ref q.1).take a)) := upd_same
      generalize upd H2 p1 (.lst ((zs.map fun q => V.ref q.1).take a)) = H3 at s3 h3 ⊢
      obtain ⟨dx1, lf1, ek⟩ := hz2 z1 hz1
      refine ⟨_, rfl, l, _, ((0 : Nat) : Int), _, rfl, rfl, SqL.of (s3 _ _ hl2), atI_nat e1, z1.1, C, dx1, _, _, rfl, s3 _ _ ek, KC.cl, KC.nN, kf_name _ _ _, by show 1 ≤ sizeLine; exact small 1 (by decide), fun py fy => ⟨by show 2 ≤ sizeLine; exact small 2 (by decide), fun pt ft => ⟨by show 1 ≤ sizeLine; exact small 1 (by decide), fun pl fl => ?_⟩⟩⟩
      have hf : Has Any (upd (upd (upd H3 py (.lst [.str "y"])) pt (.tup [.str "x", .ref py])) pl (.lst [.ref pt])) (.ref pl) (.list (([("x", ["y"])] : List (Str × List Str)).map fieldD)) :=
        .lst trivial upd_same (by show 1 ≤ 1000; decide) (.cons (.tup trivial ((Same.new fl) _ _ upd_same) (by show 2 ≤ 1000; decide) (.cons (.str _ (by decide) (by decide +kernel)) (.cons (.lst trivial ((Same.new fl) _ _ ((Same.new ft) _ _ upd_same)) (by decide) (.cons (.str _ (by decide) (by decide +kernel)) .nil)) .nil))) .nil)
      have s4 : Same H3 (upd (upd (upd H3 py (.lst [.str "y"])) pt (.tup [.str "x", .ref py])) pl (.lst [.ref pt])) := (Same.new fy).trans ((Same.new ft).trans (Same.new fl))
      generalize upd (upd (upd H3 py (.lst [.str "y"])) pt (.tup [.str "x", .ref py])) pl (.lst [.ref pt]) = H4 at hf s4 ⊢
      intro x dx hx hdx ne
      refine init_own (r := ⟨z1.2.name, [("x", ["y"])], none⟩) hx hdx ne (ho _ hz1) hf fields_xy (fun o e => nomatch e) fun H8 s8 kd8 => ⟨rfl, ?_⟩
      have s28 := s3.trans (s4.trans s8)
      refine hR _ _ (s28 _ _ hl2) (s8 _ _ (s4 _ _ h3)) fun q5 H5 s5 h5 => ?_
      have f5 : ∀ b o, H2 b = some o → b ≠ p → H5 b = some o := fun b o e _ => s5 _ _ (s28 _ _ e)
      exact q2 _ _ ⟨mid_no (y := (x, ⟨z1.2.name, [("x", ["y"])], none⟩)) (keep f5).2 (kd8.mono fun b o e _ => s5 _ _ e) (by omega) ho (ho z1 hz1) h5 (.inl ⟨_, hz1, rfl⟩), (src S2 fun o e => s5 _ _ (s28 _ _ e)).mono (by omega), f5⟩
    rw [no c3]
    refine iteF ⟨_, rfl, rfl, _, rfl, ?_⟩
    by_cases c4 : way = 4
    · subst c4
      rw [decide_eq_true rfl]
      refine iteT (mid rfl rfl (by omega) (by omega) hl2 fun p1 f1 R hR => ?_)
      have s3 : Same H2 (upd H2 p1 (.lst ((zs.map fun q => V.ref q.1).take a))) := Same.new f1
      have h3 : (upd H2 p1 (.lst ((zs.map fun q => V.ref q.1).take a))) p1 = some (.lst ((zs.map fun q => V.ref q.1).take a)) := upd_same
      generalize upd H2 p1 (.lst ((zs.map fun q => V.ref q.1).take a)) = H3 at s3 h3 ⊢
      refine ⟨Nat.zero_le _, fun pl fl => ?_⟩
      have hf : Has Any (upd H3 pl (.lst [])) (.ref pl) (.list []) := .lst trivial upd_same (Nat.zero_le _) .nil
      have s4 : Same H3 (upd H3 pl (.lst [])) := Same.new fl
      generalize upd H3 pl (.lst []) = H4 at hf s4 ⊢
      intro x dx hx hdx ne
      have hx2 : (upd H4 dx (.own x)) x = none := by rw [upd_ne ne.symm]; exact hx
      have s : Same H4 (upd (upd H4 dx (.own x)) x (.ins C dx [])) := (Same.new hdx).trans (Same.new hx2)
      refine ⟨x, dx, .ref pl, .str "yy", "zz", _, .str "yy", rfl, upd_same, by decide, by decide +kernel, by decide +kernel, hf.mono s, by decide +kernel, .str _ (by decide) (by decide +kernel), by decide +kernel, by decide +kernel, fun H8 lf hp8 hl8 fr8 => ⟨rfl, ?_⟩⟩
      have s8 : Same H4 H8 := fun b o e => fr8 b o (s _ _ e) (ne_of_none e hx)
      have s28 := s3.trans (s4.trans s8)
      refine hR _ _ (s28 _ _ hl2) (s8 _ _ (s4 _ _ h3)) fun q5 H5 s5 h5 => ?_
      have f5 : ∀ b o, H2 b = some o → b ≠ p → H5 b = some o := fun b o e _ => s5 _ _ (s28 _ _ e)
      exact q2 _ _ ⟨mid_no (y := (x, ⟨"zz", [], some "yy"⟩)) (keep f5).2 ⟨dx, lf, s5 _ _ hp8⟩ (by omega) ho name_zz h5 (.inr ⟨_, rfl, name_zz.2.2.2, fun z hz => (ho z hz).2.2.2⟩), (src S2 fun o e => s5 _ _ (s28 _ _ e)).mono (by omega), f5⟩
    rw [no c4]
    refine iteF ?_
    refine ⟨_, rfl, _, rfl, l, rfl, ⟨_, SqL.of hl2⟩, comp_list (xs := zs.map fun q => V.ref q.1) (fun i ys H' => H2 = H' ∧ ys = ((zs.take i).filter (fun q => readyB [] q.2)).map fun q => V.ref q.1) ⟨rfl, rfl⟩ (fun i ys H' p => by rw [← p.1]; exact SqL.of hl2) (fun i ys H' hi p => ?_) ?_ ?_⟩
    · rw [p.2, List.length_map]
      have h1 := List.length_filter_le (fun q : Addr × Row => readyB [] q.2) (zs.take i)
      have h2 := List.length_take_le' i zs
      exact small _ (by omega)
    · rintro i x ys H' hi ⟨rfl, rfl⟩ N hN
      rw [List.getElem?_map] at hi
      cases ep : zs[i]? with
      | none => rw [ep] at hi; cases hi
      | some q =>
        rw [ep] at hi
        cases hi
        obtain ⟨dx, lf, e⟩ := hz2 q (List.mem_of_getElem? ep)
        refine ⟨_, rfl, q.1, C, dx, _, _, rfl, e, KC.cl, KC.nO, kf_owner _ _ _, _, rfl, ?_⟩
        cases eo : q.2.owner with
        | none =>
          refine iteT ⟨_, rfl, hN _ _ ⟨rfl, ?_⟩⟩
          rw [filter_snoc _ ep, if_pos (by simp [readyB, eo]), List.map_append]
          rfl
        | some o =>
          refine iteF (hN _ _ ⟨rfl, ?_⟩)
          rw [filter_snoc _ ep, if_neg (by simp [readyB, eo])]
    · rintro ys H' ⟨rfl, rfl⟩ lr hlr
      rw [List.length_map, List.take_length]
      have s3 : Same H2 (upd H2 lr (.lst ((zs.filter fun q => readyB [] q.2).map fun q => V.ref q.1))) := Same.new hlr
      refine ⟨p, lr, k + 2, zs.filter fun q => readyB [] q.2, rfl, (src S2 fun o e => s3 _ _ e).mono (by omega), by omega, upd_same, fun y hy => (keep fun b o e _ => s3 _ _ e).2 y (List.mem_filter.mp hy).1, fun y hy => ho y (List.mem_filter.mp hy).1, fun v H4 ⟨n4, S4, f4⟩ => q2 _ _ ⟨n4, S4.mono (by omega), fun b o e nb => f4 b o (s3 _ _ e) nb⟩⟩
end
end L2.W
-- MOD K5O2
namespace L2.W
open PySem My
/-! ### the few -/
theorem cut_min {xs : List V} (a : Nat) : cutV xs none (some (a : Int)) = xs.take a := by
  by_cases h : a ≤ xs.length
  · exact cut_to h
  · unfold cutV
    rw [HT.sIx_nat, HT.sIx_none, Nat.min_eq_right (by omega), List.drop_zero, Nat.sub_zero, List.take_length, List.take_of_length_le (by omega)]
theorem inV_strs (n : Str) : ∀ ord : List Str, inV (.str n) (ord.map V.str) = decide (n ∈ ord)
  | [] => rfl
  | m :: r => by
    have ih := inV_strs n r
    show (eqV (.str m) (.str n) || inV (.str n) (r.map V.str)) = _
    rw [ih]
    show ((m == n) || decide (n ∈ r)) = _
    by_cases e : m = n
    · subst e; simp
    · have : (m == n) = false := by simpa using e
      rw [this]
      simp [Ne.symm e]
theorem flat_strs : ∀ ord : List Str, (ord.map V.str).all flatV = true
  | [] => rfl
  | _ :: r => by rw [List.map_cons, List.all_cons, flat_strs r]; rfl
theorem few_ok {K : PySem.W.Frag} {mg : Str → Option Value} {C fI : Addr} (KC : KCls K mg C fI) {x0 x1 x2 x4 x5 x6 x7 x8 x9 xa xb xc : Option V} {l lk : Addr} {H12 : Hp} {rs : List Row} {zs : List (Addr × Row)} {G : Addr → Prop} {Q : VK} (hl : Has G H12 (.ref l) (.list (rs.map rowD))) (hk : ∀ y ∈ zs, KindO C H12 y.1 y.2) (k12 : H12 lk = some (.lst (zs.map fun q => V.ref q.1))) (z5 : zs.length ≤ 5)
    (k : ∀ lw H', Same H12 H' → H' lw = none → Q (.ref lw) (upd H' lw (.lst ((zs.filter fun y => decide (y.2.name ∈ (rs.take 4).map (·.name))).map fun q => V.ref q.1)))) :
    CompGoal (Itl K lk) 1 [x0, x1, x2, some (.ref l), x4, x5, x6, x7, x8, x9, xa, xb, xc] H12 (gName 13) (tTest (tOp (rIn K false) (tFld K (tVar 13) "name") (tComp 1 (iList K (tSl (rSlL K) (tVar 3) tNoPart (tPart (tC (V.int 4))))) (gName 14) tYes (tOp (rIxT K) (tVar 14) (tC (V.int 0)))))) (tVar 13) Q := by
  have small : ∀ n : Nat, n ≤ 1000 → n ≤ sizeLine := fun n h => Nat.le_of_lt (small1000 h)
  have fm : ∀ (i : Nat), ((zs.take i).filter (fun y => decide (y.2.name ∈ (rs.take 4).map (·.name)))).length ≤ 5 := fun i => by
    have h1 := List.length_filter_le (fun y : Addr × Row => decide (y.2.name ∈ (rs.take 4).map (·.name))) (zs.take i)
    have h2 := List.length_take_le' i zs
    omega
  refine comp_list (xs := zs.map fun q => V.ref q.1) (fun i ys H' => Same H12 H' ∧ ys = ((zs.take i).filter (fun y => decide (y.2.name ∈ (rs.take 4).map (·.name)))).map fun q => V.ref q.1) ⟨Same.refl _, rfl⟩ (fun i ys H' p => SqL.of (p.1 _ _ k12)) (fun i ys H' hi p => ?_) ?_ ?_
  · rw [p.2, List.length_map]
    exact small _ (Nat.le_trans (fm i) (by decide))
  · rintro j x ys H' hj ⟨s13, rfl⟩ N hN
    rw [List.getElem?_map] at hj
    cases ep : zs[j]? with
    | none => rw [ep] at hj; cases hj
    | some y =>
      rw [ep] at hj
      cases hj
      obtain ⟨dx1, lf1, e1⟩ := hk y (List.mem_of_getElem? ep)
      obtain ⟨l', xs, e, _, hl12, hzl, hxl⟩ := id hl.list_inv
      cases e
      refine ⟨_, rfl, y.1, C, dx1, _, _, rfl, s13 _ _ e1, KC.cl, KC.nN, kf_name _ _ _, _, rfl, ((4 : Nat) : Int), rfl, l, _, rfl, SqL.of (s13 _ _ hl12), fun p4 f4 => ⟨p4, rfl, ⟨_, SqL.of upd_same⟩, ?_⟩⟩
      rw [cut_min]
      have s14 := s13.trans (Same.new (o := .lst (xs.take 4)) f4)
      have h14 : (upd H' p4 (.lst (xs.take 4))) p4 = some (.lst (xs.take 4)) := upd_same
      generalize upd H' p4 (.lst (xs.take 4)) = H14 at s14 h14 ⊢
      have ht := hasAll_take 4 hxl
      rw [← List.map_take] at ht
      have tl4 : (xs.take 4).length = (rs.take 4).length := by rw [ht.length, List.length_map]
      refine comp_list (xs := xs.take 4) (fun j ys H' => H14 = H' ∧ ys = (((rs.take 4).take j).map (·.name)).map V.str) ⟨rfl, rfl⟩ (fun j ys H' p => by rw [← p.1]; exact SqL.of h14) (fun j ys H' hi p => ?_) ?_ ?_
      · rw [p.2, List.length_map, List.length_map]
        have h1 := List.length_take_le' j (rs.take 4)
        have h2 := List.length_take_le 4 rs
        exact small _ (by omega)
      · rintro j x ys H' hj ⟨rfl, rfl⟩ N hN
        obtain ⟨dd, hdd, hv⟩ := ht.get hj
        rw [List.getElem?_map] at hdd
        cases er : (rs.take 4)[j]? with
        | none => rw [er] at hdd; cases hdd
        | some row =>
          rw [er] at hdd
          cases hdd
          obtain ⟨t, x1, x2, rfl, _, ht⟩ := row_name hv
          refine pick ⟨_, rfl, t, _, ((0 : Nat) : Int), _, rfl, rfl, SqT.of (s14 _ _ ht), atI_nat rfl, hN _ _ ⟨rfl, ?_⟩⟩
          rw [List.take_add_one (l := rs.take 4) (i := j), er, List.map_append, List.map_append]
          rfl
      · rintro ys H' ⟨rfl, rfl⟩ lq hlq
        rw [tl4, List.take_length]
        have s15 := s14.trans (Same.new (o := .lst (((rs.take 4).map (·.name)).map V.str)) hlq)
        refine ⟨lq, _, rfl, .inl (SqL.of upd_same), rfl, flat_strs _, _, rfl, ?_⟩
        rw [show (if false = true then !inV (V.str y.2.name) (((rs.take 4).map (·.name)).map V.str) else inV (V.str y.2.name) (((rs.take 4).map (·.name)).map V.str)) = decide (y.2.name ∈ (rs.take 4).map (·.name)) from inV_strs _ _]
        by_cases c1 : y.2.name ∈ (rs.take 4).map (·.name)
        · rw [decide_eq_true c1]
          refine iteT ⟨_, rfl, hN _ _ ⟨s15, ?_⟩⟩
          rw [filter_snoc _ ep, if_pos (decide_eq_true c1), List.map_append]
          rfl
        · rw [decide_eq_false c1]
          refine iteF (hN _ _ ⟨s15, ?_⟩)
          rw [filter_snoc _ ep, if_neg (by simpa using c1)]
  · rintro ys H13 ⟨s13, rfl⟩ lw hlw
    rw [List.length_map, List.take_length]
    exact k lw _ s13 hlw
end L2.W
-- MOD K5P
namespace L2.W
open PySem My
/-! ### the law -/
theorem cut_ints (ns : List Int) (lo hi : Option Int) : ∃ ms : List Int, cutV (ns.map V.int) lo hi = ms.map V.int ∧ ms.length ≤ ns.length := by
  unfold cutV
  rw [← List.map_drop, ← List.map_take]
  exact ⟨_, rfl, by rw [List.length_take, List.length_drop]; omega⟩
theorem strs_data {G : Addr → Prop} {H : Hp} {l : Addr} {ks : List Str} (g : G l) (e : H l = some (.lst (ks.map V.str))) (hl : ks.length ≤ 1000) (ok : ∀ x ∈ ks, nameOk x) : Has G H (.ref l) (.list (ks.map PyData.str)) := .lst g e (by rw [List.length_map]; exact hl) (names_has ok)
theorem depth_strs : ∀ ks : List Str, PyData.depthAll (ks.map PyData.str) ≤ 1
  | [] => by decide
  | k :: r => by
    have := depth_strs r
    show max (PyData.depth (.str k)) (PyData.depthAll (r.map PyData.str)) ≤ 1
    have h1 : PyData.depth (.str k) ≤ 1 := by first | decide | (show 0 ≤ 1; decide) | (show 1 ≤ 1; decide) | simp [PyData.depth]
    omega
theorem depth_list (ks : List Str) : PyData.depth (.list (ks.map PyData.str)) ≤ 64 := by
  have := depth_strs ks
  show PyData.depthAll (ks.map PyData.str) + 1 ≤ 64
  omega
noncomputable def KG (C : Addr) (G : Addr → Prop) (H : Hp) (p : Addr) (r : Row) : Prop := ∃ dx lf, H p = some (.ins C dx (kflds (.str r.name) (.ref lf) (ownV r.owner))) ∧ Has G H (.ref lf) (.list (r.fields.map fieldD))
theorem KG.o {C : Addr} {G : Addr → Prop} {H : Hp} {p : Addr} {r : Row} (h : KG C G H p r) : KindO C H p r := by
  obtain ⟨dx, lf, e, _⟩ := h
  exact ⟨dx, lf, e⟩
structure Kp (C Pt p q lh r l : Addr) (ms : List Int) (rt rs : List Row) (zs : List (Addr × Row)) (H : Hp) : Prop where
  hp : H p = some (.lst (ms.map V.int))
  hr : Has (fun a => a ≠ q ∧ a ≠ lh) H (.ref r) (.list (rt.map rowD))
  hl : Has (fun a => a ≠ q ∧ a ≠ lh) H (.ref l) (.list (rs.map rowD))
  hk : ∀ y ∈ zs, KG C (fun a => a ≠ q ∧ a ≠ lh) H y.1 y.2
  hT : TabOk H Pt lamPos lamQ
  hq : ∃ xs, H q = some (.lst xs)
  hh : ∃ xs, H lh = some (.lst xs)
theorem Kp.step {C Pt p q lh r l : Addr} {ms : List Int} {rt rs : List Row} {zs : List (Addr × Row)} {H H' : Hp} (k : Kp C Pt p q lh r l ms rt rs zs H) (pq : p ≠ q) (ph : p ≠ lh) (f : ∀ b o, H b = some o → b ≠ q → b ≠ lh → b ≠ Pt → H' b = some o) (T : TabOk H' Pt lamPos lamQ) (hq : ∃ xs, H' q = some (.lst xs)) (hh : ∃ xs, H' lh = some (.lst xs)) :
    Kp C Pt p q lh r l ms rt rs zs H' := by
  have fh : ∀ {v : V} {d : PyData}, Has (fun a => a ≠ q ∧ a ≠ lh) H v d → Has (fun a => a ≠ q ∧ a ≠ lh) H' v d := fun h => h.frameS fun a o ga hs e => ⟨ga, f a o e ga.1 ga.2 (k.hT.ne e (by rintro ps rfl; exact hs))⟩
  refine ⟨f _ _ k.hp pq ph (k.hT.ne k.hp fun _ z => nomatch z), fh k.hr, fh k.hl, fun y hy => ?_, T, hq, hh⟩
  obtain ⟨dx, lf, e, h⟩ := k.hk y hy
  obtain ⟨xq, eq⟩ := k.hq
  obtain ⟨xh, eh⟩ := k.hh
  exact ⟨dx, lf, f _ _ e (ne_of e eq (fun z => nomatch z)) (ne_of e eh (fun z => nomatch z)) (k.hT.ne e fun _ z => nomatch z), fh h⟩
theorem pickT3 {K : PySem.W.Frag} {A B : St → Hp → Prop} {σ : St} {H : Hp} {i j m : Nat} {p : Addr} {x y z : V} (hp : SqT K H p [x, y, z]) (h : A (((σ.set i (some x)).set j (some y)).set m (some z)) H) :
    gTup K 3 (gCons (gName i) (gCons (gName j) (gCons (gName m) gNil))) (.ref p) σ H fun σ2 H2 => tYes σ2 H2 fun b H3 => if b = true then A σ2 H3 else B σ2 H3 := by
  refine ⟨p, [x, y, z], rfl, hp, rfl, x, [y, z], rfl, y, [z], rfl, z, [], rfl, rfl, ?_⟩
  show if true = true then A (((σ.set i (some x)).set j (some y)).set m (some z)) H else B (((σ.set i (some x)).set j (some y)).set m (some z)) H
  rw [if_pos rfl]
  exact h
theorem depth_fields : ∀ fs : List (Str × List Str), PyData.depthAll (fs.map fieldD) ≤ 4
  | [] => by decide
  | f :: r => by
    have h2 := depth_fields r
    have h1 := depth_strs f.2
    show max (PyData.depth (fieldD f)) (PyData.depthAll (r.map fieldD)) ≤ 4
    have h3 : PyData.depth (fieldD f) ≤ 4 := by
      show max (PyData.depth (.str f.1)) (max (PyData.depthAll (f.2.map PyData.str) + 1) (PyData.depthAll [])) + 1 ≤ 4
      have h4 : PyData.depth (.str f.1) ≤ 1 := by simp [PyData.depth]
      have h5 : PyData.depthAll [] ≤ 1 := by decide
      omega
    omega
theorem depth_flist (fs : List (Str × List Str)) : PyData.depth (.list (fs.map fieldD)) ≤ 64 := by
  have := depth_fields fs
  show PyData.depthAll (fs.map fieldD) + 1 ≤ 64
  omega
theorem ord_perm {rt : List Row} {ord : List Str} (g : Greedy (· ∈ rt) ord) (h : ord.length = rt.length) (nd : (rt.map (·.name)).Nodup) : ord.Perm (rt.map (·.name)) := by
  refine (List.perm_ext_iff_of_nodup g.nodup nd).mpr fun n => ⟨fun hn => ?_, fun hn => ?_⟩
  · obtain ⟨r, m, e⟩ := g.mem hn
    exact List.mem_map.mpr ⟨r, m, e⟩
  · refine Classical.byContradiction fun hno => ?_
    have := sub_len (a := n :: ord) (b := rt.map (·.name)) (List.nodup_cons.mpr ⟨hno, g.nodup⟩) fun x hx => by
      rcases List.mem_cons.mp hx with e | hx
      · rw [e]; exact hn
      · obtain ⟨r', m', e⟩ := g.mem hx
        exact List.mem_map.mpr ⟨r', m', e⟩
    rw [List.length_cons, List.length_map] at this
    omega
theorem sorted_eq {a b : List Str} (h1 : a.Pairwise fun x y => ¬ ltS y x) (h2 : b.Pairwise fun x y => ¬ ltS y x) (p : a.Perm b) : a = b := List.Perm.eq_of_pairwise (fun x y _ _ h h' => ltS_eq h' h) h1 h2 p
theorem ka_step {CK C Pt p q lh r l kq d : Addr} {ms : List Int} {rt rs : List Row} {zs : List (Addr × Row)} {H H' : Hp} {kvs : List (Key × V)} (k : Kp C Pt p q lh r l ms rt rs zs H) (f : ∀ b o, H b = some o → b ≠ q → b ≠ lh → b ≠ Pt → H' b = some o) (h : KindsAt CK H kq d kvs) : KindsAt CK H' kq d kvs := by
  obtain ⟨xq, eq⟩ := k.hq
  obtain ⟨xh, eh⟩ := k.hh
  refine h.mono fun b o e hs => ?_
  rcases hs with ⟨C, dx, fs, rfl⟩ | ⟨kvs, rfl⟩ | ⟨x, u, rfl⟩
  · exact f _ _ e (ne_of e eq (fun z => nomatch z)) (ne_of e eh (fun z => nomatch z)) (k.hT.ne e fun _ z => nomatch z)
  · exact f _ _ e (ne_of e eq (fun z => nomatch z)) (ne_of e eh (fun z => nomatch z)) (k.hT.ne e fun _ z => nomatch z)
  · exact f _ _ e (ne_of e eq (fun z => nomatch z)) (ne_of e eh (fun z => nomatch z)) (k.hT.ne e fun _ z => nomatch z)
theorem scal_own (o : Option Str) : scal (ownV o) (ownV o) = true := by cases o <;> rfl
theorem name_a : nameOk "a" := by unfold nameOk; decide +kernel
theorem name_b : nameOk "b" := by unfold nameOk; decide +kernel
theorem rows_a : RowsOk [⟨"a", [], none⟩] := ⟨by decide, by decide, by simp, fun r h => by rw [List.mem_singleton.mp h]; exact ⟨name_a, fields_nil⟩, fun i r o e eo => by
  have : r = ⟨"a", [], none⟩ := List.mem_singleton.mp (List.mem_of_getElem? e)
  rw [this] at eo
  cases eo⟩
theorem stuck_b : Stuck [⟨"a", [], some "b"⟩] := stuck_of ["a"] ⟨_, List.mem_singleton.mpr rfl, List.mem_singleton.mpr rfl⟩ fun r h _ => by
  rw [List.mem_singleton.mp h]
  exact ⟨"b", rfl, .inr fun r' h' => by rw [List.mem_singleton.mp h']; decide +kernel⟩
structure All5 (K : PySem.W.Frag) (mg : Str → Option Value) (base : Heap) (fN fU fP fF fC fI C fA fp c Pt CK fIk fOr fOf fOw CN CR C1 C2 C3 fm fd fn fg fa fl fS fT fWd fR fB : Addr) (dN dU dP dF dC dI dA dp dIk dOr dOf dm dd dn dg da dl dS dT dWd dR dB : FuncData) (dV : Value) : Prop where
  T : Tops K mg
  N : Def K mg "is_name" sIsName ["thing"] fN dN
  U : Def K mg "are_unlike_names" sUnlike ["things"] fU dU
  P : Def K mg "is_pair_with_values" sPair ["thing"] fP dP
  F : Def K mg "are_fields" sFields ["things"] fF dF
  Ct : Def K mg "count_states" sCount ["fields"] fC dC
  I : FunD K "__init__" "Kind.__init__" sInit dV fI dI
  KC : KCls K mg C fI
  KI : KIsi K C
  KN : KNo K C
  bK : Binds K dI ["self", "name", "fields", "owner"] []
  bK2 : Binds K dI ["self", "name", "fields", "owner"] [.none]
  A : Def K mg "are_kinds" sAreKinds ["things"] fA dA
  p : FunL K "placed_by_owners" "placed_by_owners" sPlaced fp dp c
  pa : mg "placed_by_owners" = some (.ref fp)
  pb : Binds K dp ["kinds"] []
  LT : LamTxt K mg base c Pt
  Ik : Fun K "__init__" "Kinds.__init__" sInitKs fIk dIk
  bIk : Binds K dIk ["self", "kinds"] []
  Or : Fun K "order" "Kinds.order" sOrder fOr dOr
  bOr : Binds K dOr ["self"] []
  Of : Fun K "of" "Kinds.of" sOf fOf dOf
  bOf : Binds K dOf ["self", "name"] []
  KS : KsCls K mg CK fIk fOr fOf fOw
  R : Refs K mg CN CR C1 C2 C3
  m : Def K mg "_law_mixed" sMixed ["_law_cell", "_law_k"] fm dm
  d : Def K mg "_law_digits" sDigits ["_law_cell"] fd dd
  n : Def K mg "_law_next" sNext ["_law_source", "_law_many"] fn dn
  g : Def K mg "_law_sign" sSign ["_law_sign_here", "_law_turn"] fg dg
  a : Def K mg "_law_names" sNames ["_law_source", "_law_many"] fa da
  l : Def K mg "_law_fields" sLFields ["_law_source"] fl dl
  S : Def K mg "_law_specs" sSpecs ["_law_source"] fS dS
  Tu : Def K mg "_law_turned" sTurned ["_law_source", "_law_things"] fT dT
  Wd : Def K mg "_law_word" sWord ["_law_things"] fWd dWd
  Ri : Def K mg "_law_ring" sRing ["_law_source", "_law_kinds"] fR dR
  B : Def K mg "_law_bad" sBad ["_law_source", "_law_kinds"] fB dB
noncomputable def spLaw5 (K : PySem.W.Frag) (Pt : Addr) : Sp := fun vs H Q _ => ∃ (a : Addr) (ns : List Int), vs = [.ref a] ∧ SqL K H a (ns.map V.int) ∧ ns.length ≤ 63 ∧ TabOk H Pt lamPos lamQ ∧ ∀ H', Q (.bl true) H'
section
variable {P : Program} {w : World} {K : PySem.W.Frag} {mg : Str → Option Value} {base : Heap}
theorem scL5 : FnScope ["_law_script", "_law_cell", "_law_source", "_law_whole", "_law_specs_here", "_law_handed", "_law_kept", "_law_kinds", "_law_few", "_law_name", "_law_fields_here", "_law_owner", "_law_kind"] ["_law_script"] (defScope sLaw) := ⟨rfl, rfl, rfl, by decide +kernel, rfl, by decide +kernel, by decide +kernel⟩
noncomputable abbrev nA : List Str := ["_law_script", "_law_cell", "_law_source", "_law_whole", "_law_specs_here", "_law_handed", "_law_kept", "_law_kinds", "_law_few", "0", "1", "2", "_law_kind"]
noncomputable abbrev nB : List Str := ["_law_script", "_law_cell", "_law_source", "_law_whole", "_law_specs_here", "_law_handed", "_law_kept", "_law_kinds", "_law_few", "_law_name", "_law_fields_here", "_law_owner", "0"]
theorem ndA : nA.Nodup := by decide +kernel
theorem ndB : nB.Nodup := by decide +kernel
theorem sl_listK {X : Cx} {K : PySem.W.Frag} (hK : X.K = K) : SlR X (rSlL K) := by
  subst hK
  exact sl_list
theorem ix_tupK {X : Cx} {K : PySem.W.Frag} (hK : X.K = K) : IxR X (rIxT K) := by
  subst hK
  exact ix_tup
theorem sameA : sameN ["_law_script", "_law_cell", "_law_source", "_law_whole", "_law_specs_here", "_law_handed", "_law_kept", "_law_kinds", "_law_few", "_law_name", "_law_fields_here", "_law_owner", "_law_kind"] nA [9, 10, 11] := by unfold sameN; decide +kernel
theorem sameB : sameN ["_law_script", "_law_cell", "_law_source", "_law_whole", "_law_specs_here", "_law_handed", "_law_kept", "_law_kinds", "_law_few", "_law_name", "_law_fields_here", "_law_owner", "_law_kind"] nB [12] := by unfold sameN; decide +kernel
set_option maxHeartbeats 4000000 in
theorem ok_law5 {f fN fU fP fF fC fI C fA fp c Pt CK fIk fOr fOf fOw CN CR C1 C2 C3 fm fd fn fg fa fl fS fT fWd fR fB : Addr} {fdl dN dU dP dF dC dI dA dp dIk dOr dOf dm dd dn dg da dl dS dT dWd dR dB : FuncData} {dV : Value} (F : Fun K "law" "law" sLaw f fdl)
    (A : All5 K mg base fN fU fP fF fC fI C fA fp c Pt CK fIk fOr fOf fOw CN CR C1 C2 C3 fm fd fn fg fa fl fS fT fWd fR fB dN dU dP dF dC dI dA dp dIk dOr dOf dm dd dn dg da dl dS dT dWd dR dB dV) :
    FnOk P w K mg base (CXM P w) 9 f fdl ["_law_script"] (spLaw5 K Pt) := by
  have T := A.T
  have hC : Calm (CXM P w) := calmM
  have GD : FnOk P w K mg base (CXM P w) 1 fd dd ["_law_cell"] spDigits := ok_digits A.d.fn
  have GS : FnOk P w K mg base (CXM P w) 5 fS dS ["_law_source"] spSpecs := ok_specs hC T A.S.fn A.m A.n A.g A.a A.l
  have GT : FnOk P w K mg base (CXM P w) 3 fT dT ["_law_source", "_law_things"] (spTurned K) := ok_turned hC T A.Tu.fn A.m A.n
  have GK : FnOk P w K mg base (CXM P w) 5 fI dI ["self", "name", "fields", "owner"] (spInit C) := ok_init hC T A.I A.KC A.N A.U A.P A.F A.Ct
  have GI : FnOk P w K mg base (CXM P w) 5 fIk dIk ["self", "kinds"] (spInitKs CK C Pt) := ok_initKs hC T A.KC A.KI A.KS A.LT A.Ik A.N A.U A.A A.p A.pa A.pb
  have GX : FnOk P w K mg base (CXM P w) 5 fIk dIk ["self", "kinds"] (spBadKs K C CN Pt) := ok_badKs T A.KC A.KI A.R.no A.LT A.Ik A.N A.U A.A A.p A.pa A.pb rfl
  have GW : FnOk P w K mg base (CXM P w) 7 fWd dWd ["_law_things"] (spWord K C Pt) := ok_word T A.R A.KS A.Wd.fn GI GX A.bIk
  have GB : FnOk P w K mg base (CXM P w) 8 fB dB ["_law_source", "_law_kinds"] (spBad K C) := ok_bad hC T A.KC A.KI A.KN GK A.bK A.bK2 A.B.fn A.m A.n A.Tu A.Ri
  have GOr : FnOk P w K mg base (CXM P w) 1 fOr dOr ["self"] (spOrder CK) := ok_order T A.KS A.Or
  have GOf : FnOk P w K mg base (CXM P w) 2 fOf dOf ["self", "name"] (spOf CK) := ok_of hC T A.KS A.Of A.N
  refine Fun.okC F scL5 (fun vs H Q E h => ?_) (fun cdv Ar outer s H vs Q E hr h => ?_)
  · obtain ⟨a, ns, rfl, _⟩ := h
    rfl
  · obtain ⟨a, ns, rfl, hS, hlen, hT, k⟩ := h
    have hr1 := hr.mono (show 1 ≤ 8 by decide)
    have hr2 := hr.mono (show 2 ≤ 8 by decide)
    have hr3 := hr.mono (show 3 ≤ 8 by decide)
    have hr5 := hr.mono (show 5 ≤ 8 by decide)
    have hr6 := hr.mono (show 6 ≤ 8 by decide)
    have hr7 := hr.mono (show 7 ≤ 8 by decide)
    have nd := scL5.nd
    have dv : Vals [.non] [Value.none] := .cons rfl .nil
    refine ⟨_, pss_cons (ps_for PassesOwn.never rfl (pi_list (pe_slice sl_list (pv 0) po_none (po_some pe_int))) (pg_name (i := 1) nd rfl (Or.inl rfl))
        (pss_cons (ps_set (i := 2) nd rfl (Or.inl rfl) (pe_call GD hr1 rfl A.d.at_ A.d.fn.kp A.d.bind .nil (passC hC) (pa_cons (pv 1) pa_nil)))
        (pss_cons (ps_set (i := 3) nd rfl (Or.inr rfl) (pe_call GS hr5 rfl A.S.at_ A.S.fn.kp A.S.bind .nil (passC hC) (pa_cons (pv 2) pa_nil)))
        (pss_cons (ps_set (i := 4) nd rfl (Or.inl rfl) (pe_call GT hr3 rfl A.Tu.at_ A.Tu.fn.kp A.Tu.bind .nil (passC hC) (pa_cons (pv 2) (pa_cons (pv 3) pa_nil))))
        (pss_cons (ps_re nA [9, 10, 11] sameA (ps_setComp (T := ["_law_name", "_law_fields_here", "_law_owner"]) (i := 5) rfl ScOk.auto (pi_list (pv 4)) (fun _ _ _ _ => pg_tupK (K := K) (n := 3) rfl rfl (pgs_cons (pg_name (i := 13) (by decide +kernel : (nA ++ (["_law_name", "_law_fields_here", "_law_owner"] : List Str)).Nodup) rfl (Or.inl rfl)) (pgs_cons (pg_name (i := 14) (by decide +kernel : (nA ++ (["_law_name", "_law_fields_here", "_law_owner"] : List Str)).Nodup) rfl (Or.inl rfl)) (pgs_cons (pg_name (i := 15) (by decide +kernel : (nA ++ (["_law_name", "_law_fields_here", "_law_owner"] : List Str)).Nodup) rfl (Or.inl rfl)) pgs_nil)))) (fun _ _ _ _ => pf_nil)
          (fun _ _ _ _ => pe_make A.KC.mkd GK hr6 rfl A.KC.mgC A.bK .nil (passC hC) (pa_cons (pv 13) (pa_cons (pv 14) (pa_cons (pv 15) pa_nil)))) ndA rfl rfl rfl))
        (pss_cons (ps_set (i := 6) nd rfl (Or.inl rfl) (pe_callTy (r := fun xs H Q => ∃ p ys, xs = [.ref p] ∧ (SqL K H p ys ∨ SqT K H p ys) ∧ ∀ l, H l = none → Q (.ref l) (upd H l (.lst ys))) call_list_of rfl T.list PyProof.Rows.boot_list (pa_cons (pv 5) pa_nil)))
        (pss_cons (ps_set (i := 7) nd rfl (Or.inl rfl) (pe_make A.KS.mkd GI hr6 rfl A.KS.mgC A.bIk .nil (passC hC) (pa_cons (pv 5) pa_nil)))
        (pss_cons (ps_re nB [12] sameB (ps_setComp (T := ["_law_kind"]) (i := 8) rfl ScOk.auto (pi_list (pv 6)) (fun _ _ _ _ => pg_name (i := 13) (by decide +kernel : (nB ++ (["_law_kind"] : List Str)).Nodup) rfl (Or.inl rfl))
          (fun _ _ _ _ => pf_one (pt_cmpR (r := rIn K false) op_in_seq (pe_fldK (K := K) rfl (pv 13) rfl) (pe_comp (T := ["_law_spec"]) rfl ScOk.auto (pi_listK (K := K) rfl (pe_slice (sl_listK (K := K) rfl) (pv 3) po_none (po_some pe_int))) (fun _ _ _ _ => pg_name (i := 14) (by decide +kernel : ((nB ++ (["_law_kind"] : List Str)) ++ (["_law_spec"] : List Str)).Nodup) rfl (Or.inl rfl)) (fun _ _ _ _ => pf_nil) (fun _ _ _ _ => pe_ix (ix_tupK (K := K) rfl) (pv 14) pe_int (fun _ _ => rfl))) rfl))
          (fun _ _ _ _ => pv 13) ndB rfl rfl rfl))
        (pss_cons (ps_if (PW.pt (pw_or (pt_cmpR (op_neI hr.units) (pv 5) (pv 6) (nomark _)) (pw_or1 (pt_cmpR op_ne (pe_call GW hr7 rfl A.Wd.at_ A.Wd.fn.kp A.Wd.bind .nil (passC hC) (pa_cons (pe_call GB hr rfl A.B.at_ A.B.fn.kp A.B.bind .nil (passC hC) (pa_cons (pv 2) (pa_cons (pv 8) pa_nil))) pa_nil)) pe_str (nomark _))))) (pss_one (ps_ret pe_bl)) pss_nil)
        (pss_cons (ps_expr (pe_bm0 PySem.F.plainAttrs_list PySem.F.slot_list_clear PySem.F.type_list_clear mt_clear (pv 5)))
        (pss_cons (ps_if (pt_cmpR (op_neD hr.units) (pe_callB (call_sorted_strs (K := K) rfl) rfl T.sorted PyProof.Rows.boot_sorted (pa_cons (pe_meth0 (pv 7) A.KS.cl A.KS.mOr GOr hr1 A.bOr .nil (passC hC)) pa_nil))
            (pe_callB (call_sorted_strs (K := K) rfl) rfl T.sorted PyProof.Rows.boot_sorted (pa_cons (pe_comp (T := ["_law_spec"]) rfl ScOk.auto (pi_list (pv 4)) (fun _ _ _ _ => pg_name (i := 13) (by decide +kernel : (["_law_script", "_law_cell", "_law_source", "_law_whole", "_law_specs_here", "_law_handed", "_law_kept", "_law_kinds", "_law_few", "_law_name", "_law_fields_here", "_law_owner", "_law_kind", "_law_spec"] : List Str).Nodup) rfl (Or.inl rfl)) (fun _ _ _ _ => pf_nil) (fun _ _ _ _ => pe_ix (ix_tupK (K := K) rfl) (pv 13) pe_int (fun _ _ => rfl))) pa_nil)) (nomark _)) (pss_one (ps_ret pe_bl)) pss_nil)
        (pss_one (ps_for PassesOwn.never rfl (pi_list (pv 4)) (pg_tup rfl (pgs_cons (pg_name (i := 9) nd rfl (Or.inl rfl)) (pgs_cons (pg_name (i := 10) nd rfl (Or.inl rfl)) (pgs_cons (pg_name (i := 11) nd rfl (Or.inl rfl)) pgs_nil))))
          (pss_cons (ps_set (i := 12) nd rfl (Or.inl rfl) (pe_meth (pv 7) A.KS.cl A.KS.mOf GOf hr2 A.bOf .nil (passC hC) (pa_cons (pv 9) pa_nil)))
          (pss_one (ps_if (PW.pt (pw_or (pt_cmpR op_ne (pe_fld (pv 12) rfl) (pv 9) (nomark _)) (pw_or (pt_cmpR (op_neD hr.units) (pe_fld (pv 12) rfl) (pv 10) (nomark _)) (pw_or1 (pt_cmpR op_ne (pe_fld (pv 12) rfl) (pv 11) (nomark _)))))) (pss_one (ps_ret pe_bl)) pss_nil))))))))))))))))
      (pss_one (ps_ret (pe_and (pe_cmpR op_eq (pe_call GW hr7 rfl A.Wd.at_ A.Wd.fn.kp A.Wd.bind .nil (passC hC) (pa_cons (pe_lst (pa_cons (pe_make A.KC.mkd GK hr6 rfl A.KC.mgC A.bK2 dv (passC hC) (pa_cons pe_str (pa_cons (pe_lst pa_nil) pa_nil))) pa_nil)) pa_nil)) pe_str (nomark _))
        (pe_one (pe_cmpR op_eq (pe_call GW hr7 rfl A.Wd.at_ A.Wd.fn.kp A.Wd.bind .nil (passC hC) (pa_cons (pe_lst (pa_cons (pe_make A.KC.mkd GK hr6 rfl A.KC.mgC A.bK .nil (passC hC) (pa_cons pe_str (pa_cons (pe_lst pa_nil) (pa_cons pe_str pa_nil)))) pa_nil)) pa_nil)) pe_str (nomark _)))))), ?_⟩
    have small : ∀ n : Nat, n ≤ 1000 → n ≤ sizeLine := fun n h => Nat.le_of_lt (small1000 h)
    obtain ⟨ms, ems, hms⟩ := cut_ints ns none (some 30)
    refine ⟨_, rfl, _, rfl, a, _, rfl, hS, fun p hp => ?_⟩
    rw [ems]
    refine ⟨p, rfl, ⟨_, SqL.of upd_same⟩, for_list (K := K) (a := p) (xs := ms.map V.int) (fun i σ H2 => ∃ u1 u2 u3 u4 u5 u6 u7 u8 u9 v1 v2 v3 : Option V, σ = [some (.ref a), u1, u2, u3, u4, u5, u6, u7, u8, u9, v1, v2, v3] ∧ H2 p = some (.lst (ms.map V.int)) ∧ TabOk H2 Pt lamPos lamQ)
      ⟨none, none, none, none, none, none, none, none, none, none, none, none, rfl, upd_same, hT.same (Same.new hp)⟩ (fun i σ H2 _ hz => by obtain ⟨_, _, _, _, _, _, _, _, _, _, _, _, _, q, _⟩ := hz; exact SqL.of q) ?_ ?_⟩
    · rintro i y σ H2 hi ⟨u1, u2, u3, u4, u5, u6, u7, u8, u9, v1, v2, v3, rfl, hp2, hT2⟩
      obtain ⟨z, rfl⟩ : ∃ z, y = V.int z := by
        rw [List.getElem?_map] at hi
        cases e : ms[i]? with
        | none => rw [e] at hi; cases hi
        | some z => rw [e] at hi; exact ⟨z, (Option.some.inj hi).symm⟩
      refine ⟨_, rfl, z, rfl, fun q H3 hq S3 s3 k3 => ?_⟩
      have pq : p ≠ q := ne_of_none hp2 hq
      have fq : ∀ {b : Addr}, H3 b = none → b ≠ q := fun {b} h => by obtain ⟨_, _, _, e, _⟩ := S3; exact (ne_of_none e h).symm
      have hT3 := hT2.same s3
      refine ⟨_, rfl, q, 0, rfl, S3, by decide, fun l rs H4 ok hd4 S4 k4 => ?_⟩
      have hp4 : H4 p = some (.lst (ms.map V.int)) := k4 _ _ (s3 _ _ hp2) pq
      have hT4 : TabOk H4 Pt lamPos lamQ := by
        obtain ⟨_, _, _, e, _⟩ := S3
        exact hT3.but e (fun _ z => nomatch z) (fun _ z => nomatch z) k4
      have hd4' : Has (fun a => a ≠ q) H4 (.ref l) (.list (rs.map rowD)) := hd4.frame fun b o g e => ⟨fq g, e⟩
      have r5 := ok.le
      have r0 := ok.ne
      obtain ⟨l', xs, e, gl, hl4, hz4, hx4⟩ := id hd4'.list_inv
      cases e
      have xl : xs.length = rs.length := by rw [hx4.length, List.length_map]
      refine ⟨_, rfl, _, rfl, q, l, xs, _, rfl, SqL.of hl4, gl, S4, by omega, by omega, by omega, fun r tb bb H7 hr7 fr7 S7 k7 => ?_⟩
      have rq : r ≠ q := by obtain ⟨_, _, _, e, _⟩ := S4; exact Ne.symm (ne_of_none e fr7)
      have hd7r : Has (fun a => a ≠ q) H7 (.ref r) (.list ((turnL tb bb rs).map rowD)) := by
        refine .lst rq hr7 (by rw [turnL_len]; omega) ?_
        rw [← turnL_map]
        exact hasAll_turn tb bb (hx4.frame fun b o g e => ⟨g, k7 _ _ e g⟩)
      have hp7 := k7 _ _ hp4 pq
      have hd7 : Has (fun a => a ≠ q) H7 (.ref l) (.list (rs.map rowD)) := hd4'.frame fun b o g e => ⟨g, k7 _ _ e g⟩
      have hT7 : TabOk H7 Pt lamPos lamQ := by
        obtain ⟨_, _, _, e, _⟩ := S4
        exact hT4.but e (fun _ z => nomatch z) (fun _ z => nomatch z) k7
      have pm := turnL_perm tb bb rs
      have rp : RowsP (turnL tb bb rs) := ⟨rs, ok, pm⟩
      have tl : (turnL tb bb rs).length = rs.length := turnL_len tb bb rs
      generalize turnL tb bb rs = rt at hd7r pm rp tl
      clear hd4 hd4' hl4 hz4 hx4 k4 S4 hT4 hp4 hT3 k3 s3 hq hT2 hp2 k7 fr7 hr7 xl xs gl
      obtain ⟨r', xr, e, _, hr7, hzr, hxr⟩ := id hd7r.list_inv
      cases e
      have xl : xr.length = rt.length := by rw [hxr.length, List.length_map]
      refine ⟨_, rfl, r, rfl, ⟨_, SqL.of hr7⟩, comp_list (xs := xr) (fun i ys H' => Same H7 H' ∧ ∃ zs : List (Addr × Row), ys = zs.map (fun q => V.ref q.1) ∧ zs.map (·.2) = rt.take i ∧ ∀ y ∈ zs, KG C (fun a => H7 a = none) H' y.1 y.2)
        ⟨Same.refl _, [], rfl, rfl, fun _ h => nomatch h⟩ (fun i ys H' z => SqL.of (z.1 _ _ hr7)) (fun i ys H' hi z => ?_) ?_ ?_⟩
      · obtain ⟨_, zs, rfl, e, _⟩ := z
        have := congrArg List.length e
        rw [List.length_map, List.length_take] at this
        rw [List.length_map]
        exact small _ (by omega)
      · rintro j x ys H' hj ⟨s8, zs, rfl, ez, hkz⟩ N hN
        obtain ⟨dd, hdd, hv⟩ := hxr.get hj
        rw [List.getElem?_map] at hdd
        cases er : rt[j]? with
        | none => rw [er] at hdd; cases hdd
        | some row =>
          rw [er] at hdd
          cases hdd
          have mr := List.mem_of_getElem? er
          obtain ⟨onm, ofs⟩ := rp.ok row mr
          obtain ⟨t, lf, rfl, ht, hf⟩ := row_inv hv
          refine pickT3 (SqT.of (s8 _ _ ht)) ?_
          refine ⟨_, rfl, _, rfl, _, rfl, fun x dx hx hdx ne => ?_⟩
          refine init_ownF hx hdx ne onm (hf.mono s8).any ofs (fun o e => rp.owner mr e) fun H8 lf8 s9 e8 has8 => ⟨rfl, hN _ _ ⟨s8.trans s9, zs ++ [(x, row)], by rw [List.map_append]; rfl, by rw [List.map_append, ez, List.take_add_one, er]; rfl, fun y hy => ?_⟩⟩
          rcases List.mem_append.mp hy with hy | hy
          · obtain ⟨dx0, lf0, e0, h0⟩ := hkz y hy
            exact ⟨dx0, lf0, s9 _ _ e0, h0.mono s9⟩
          · rw [List.mem_singleton.mp hy]
            exact ⟨dx, lf8, e8, has8.frame fun b o g e => ⟨s8.free g, e⟩⟩
      · rintro ys H8 ⟨s8, zs, rfl, ez, hkz⟩ lh hlh
        rw [xl, List.take_length] at ez
        have zl : zs.length = rs.length := by rw [← tl, ← ez, List.length_map]
        have n7 : ∀ b o, H7 b = some o → b ≠ lh := fun b o e => ne_of_none (s8 _ _ e) hlh
        have ph : p ≠ lh := n7 _ _ hp7
        have s88 : Same H8 (upd H8 lh (.lst (zs.map fun q => V.ref q.1))) := Same.new hlh
        have K8 : Kp C Pt p q lh r l ms rt rs zs (upd H8 lh (.lst (zs.map fun q => V.ref q.1))) := by
          refine ⟨s88 _ _ (s8 _ _ hp7), hd7r.frame fun b o g e => ⟨⟨g, n7 b o e⟩, s88 _ _ (s8 _ _ e)⟩, hd7.frame fun b o g e => ⟨⟨g, n7 b o e⟩, s88 _ _ (s8 _ _ e)⟩, fun y hy => ?_, (hT7.same s8).same s88, ?_, ⟨_, upd_same⟩⟩
          · obtain ⟨dx, lf, e, h⟩ := hkz y hy
            refine ⟨dx, lf, s88 _ _ e, h.frame fun b o g e => ⟨⟨?_, ne_of_none e hlh⟩, s88 _ _ e⟩⟩
            obtain ⟨_, _, _, e', _⟩ := S7
            exact Ne.symm (ne_of_none e' g)
          · obtain ⟨_, _, _, e', _⟩ := S7
            exact ⟨_, s88 _ _ (s8 _ _ e')⟩
        have S8 : Src (upd H8 lh (.lst (zs.map fun q => V.ref q.1))) q 302 := by
          obtain ⟨a', c', j', e, r⟩ := S7
          exact ⟨a', c', j', s88 _ _ (s8 _ _ e), r.1, by omega⟩
        have h8 : (upd H8 lh (.lst (zs.map fun q => V.ref q.1))) lh = some (.lst (zs.map fun q => V.ref q.1)) := upd_same
        have lq : lh ≠ q := by obtain ⟨_, _, _, e', _⟩ := S7; exact Ne.symm (n7 _ _ e')
        generalize upd H8 lh (.lst (zs.map fun q => V.ref q.1)) = H9 at K8 S8 h8
        clear s88 hkz hlh s8 hd7r hd7 hp7 hT7 S7 n7 hr7 hzr hxr xl
        refine ⟨_, rfl, lh, _, rfl, .inl (SqL.of h8), fun lk hlk => ?_⟩
        have s9 : Same H9 (upd H9 lk (.lst (zs.map fun q => V.ref q.1))) := Same.new hlk
        have hk9 : (upd H9 lk (.lst (zs.map fun q => V.ref q.1))) lk = some (.lst (zs.map fun q => V.ref q.1)) := upd_same
        have kl : lk ≠ lh := Ne.symm (ne_of_none h8 hlk)
        have kq' : lk ≠ q := by obtain ⟨_, _, _, e', _⟩ := S8; exact Ne.symm (ne_of_none e' hlk)
        generalize upd H9 lk (.lst (zs.map fun q => V.ref q.1)) = H10 at s9 hk9 ⊢
        refine ⟨_, rfl, fun kq dx hx hdx ne => ?_⟩
        have hx2 : (upd H10 dx (.own kq)) kq = none := by rw [upd_ne ne.symm]; exact hx
        have s10 : Same H10 (upd (upd H10 dx (.own kq)) kq (.ins CK dx [])) := (Same.new hdx).trans (Same.new hx2)
        have s11 := s9.trans s10
        have nds : (zs.map fun q => q.2.name).Nodup := by
          have := rp.nd
          rw [← ez, List.map_map] at this
          exact this
        refine ⟨kq, dx, lh, zs, rfl, upd_same, s11 _ _ h8, ⟨fun y hy => (K8.hk y hy).o.mono fun b o e _ => s11 _ _ e, nds, by omega⟩, by rw [ez]; exact rp, K8.hT.same s11, fun d ord kvs H12 hp' hd' hd2 hpl hgr hlen hT' fr => ⟨rfl, ?_⟩⟩
        rw [ez] at hgr
        have f12 : ∀ b o, H10 b = some o → b ≠ Pt → H12 b = some o := fun b o e nb => fr b o (s10 _ _ e) (ne_of_none e hx) nb
        have hT10 := K8.hT.same s9
        have g12 : ∀ b o, H10 b = some o → (∀ ps, o ≠ .tbl ps) → H12 b = some o := fun b o e h => f12 b o e (hT10.ne e h)
        have K12 : Kp C Pt p q lh r l ms rt rs zs H12 := K8.step pq ph (fun b o e _ _ n => f12 b o (s9 _ _ e) n) hT' (by obtain ⟨_, _, _, e', _⟩ := S8; exact ⟨_, g12 _ _ (s9 _ _ e') fun _ z => nomatch z⟩) ⟨_, g12 _ _ (s9 _ _ h8) fun _ z => nomatch z⟩
        have S12 : Src H12 q 302 := by
          obtain ⟨a', c', j', e, r⟩ := S8
          exact ⟨a', c', j', g12 _ _ (s9 _ _ e) (fun _ z => nomatch z), r⟩
        have h12 := g12 _ _ (s9 _ _ h8) fun _ z => nomatch z
        have k12 := g12 _ _ hk9 fun _ z => nomatch z
        have KA : KindsAt CK H12 kq d kvs := ⟨⟨dx, hp'⟩, .inl hd2⟩
        clear hp' hd' hd2 hT' fr f12 g12 hT10 K8 S8 h8 hk9 s9 s10 s11 hlk hx hdx hx2 ne
        refine ⟨_, rfl, lk, rfl, ⟨_, SqL.of k12⟩, ?_⟩
        refine few_ok A.KC K12.hl (fun y hy => (K12.hk y hy).o) k12 (by omega) fun lw H13 s13 hlw => ?_
        dsimp only [gName, Ends.hid, hide, List.set]
        have zf := List.length_filter_le (fun y : Addr × Row => decide (y.2.name ∈ (rs.take 4).map (·.name))) zs
        have f0 : 0 < (zs.filter fun y => decide (y.2.name ∈ (rs.take 4).map (·.name))).length := by
          obtain ⟨r1, e1⟩ : ∃ r1, rs[0]? = some r1 := ⟨_, List.getElem?_eq_getElem r0⟩
          have m1 : r1 ∈ zs.map (·.2) := by rw [ez]; exact pm.mem_iff.mpr (List.mem_of_getElem? e1)
          obtain ⟨y, hy, ey⟩ := List.mem_map.mp m1
          refine List.length_pos_of_mem (a := y) (List.mem_filter.mpr ⟨hy, decide_eq_true (List.mem_map.mpr ⟨r1, ?_, by rw [ey]⟩)⟩)
          exact List.mem_of_getElem? (i := 0) (by rw [List.getElem?_take_of_lt (by decide)]; exact e1)
        have ff : ∀ y ∈ zs.filter (fun y => decide (y.2.name ∈ (rs.take 4).map (·.name))), y ∈ zs := fun y hy => (List.mem_filter.mp hy).1
        generalize zs.filter (fun y => decide (y.2.name ∈ (rs.take 4).map (·.name))) = few at zf f0 ff ⊢
        have s14 := s13.trans (Same.new (o := .lst (few.map fun q => V.ref q.1)) hlw)
        have w14 : (upd H13 lw (.lst (few.map fun q => V.ref q.1))) lw = some (.lst (few.map fun q => V.ref q.1)) := upd_same
        generalize upd H13 lw (.lst (few.map fun q => V.ref q.1)) = H14 at s14 w14 ⊢
        have oks : ∀ y ∈ zs, nameOk y.2.name ∧ FieldsOk y.2.fields := fun y hy => rp.ok y.2 (by rw [← ez]; exact List.mem_map.mpr ⟨y, hy, rfl⟩)
        have S14 : Src H14 q 302 := by
          obtain ⟨a', c', j', e, r⟩ := S12
          exact ⟨a', c', j', s14 _ _ e, r⟩
        refine ⟨_, rfl, _, rfl, lh, lk, zs.map (·.1), rfl, rfl, by rw [List.map_map]; exact s14 _ _ h12, by rw [List.map_map]; exact s14 _ _ k12, _, rfl, iteF ?_⟩
        refine ⟨_, rfl, _, rfl, q, lw, 302, few, rfl, S14, by decide, w14, fun y hy => (K12.hk y (ff y hy)).o.mono fun b o e _ => s14 _ _ e, fun y hy => (oks y (ff y hy)).1, f0, by omega, fun v H15 n15 => ?_⟩
        obtain ⟨n15, S15, f15⟩ := n15
        have T15 : TabOk H15 Pt lamPos lamQ := by
          obtain ⟨_, _, _, e, _⟩ := S14
          exact (K12.hT.same s14).but e (fun _ z => nomatch z) (fun _ z => nomatch z) f15
        refine ⟨v, rfl, T15, .inl ⟨n15, fun H16 T16 g16 => ⟨rfl, _, rfl, ?_⟩⟩⟩
        rw [show (!decide (V.str "kind" = V.str "kind")) = false by simp]
        refine iteF ?_
        have h16 : H16 lh = some (.lst (zs.map fun q => V.ref q.1)) := by
          have := f15 _ _ (s14 _ _ h12) lq
          exact g16 _ _ this (T15.ne this fun _ z => nomatch z)
        refine ⟨_, rfl, .inl ⟨rfl, _, SqL.of h16⟩, lh, _, rfl, rfl, h16, ?_⟩
        have F17 : ∀ b o, H12 b = some o → b ≠ q → b ≠ lh → b ≠ Pt → (upd H16 lh (.lst [])) b = some o := fun b o e n1 n2 n3 => by
          rw [upd_ne n2]
          exact g16 _ _ (f15 _ _ (s14 _ _ e) n1) n3
        have T17 : TabOk (upd H16 lh (.lst [])) Pt lamPos lamQ := T16.upd h16 (fun _ z => nomatch z) (fun _ z => nomatch z)
        have K17 := K12.step pq ph F17 T17 (by
          obtain ⟨_, _, _, e, _⟩ := S15
          exact ⟨_, by rw [upd_ne lq.symm]; exact g16 _ _ e (T15.ne e fun _ z => nomatch z)⟩) ⟨_, upd_same⟩
        have KA17 := ka_step K12 F17 KA
        generalize upd H16 lh (.lst []) = H17 at K17 KA17
        clear F17 T17 h16 g16 T16 T15 n15 S15 f15 S14 s14 w14 hlw s13 ff zf f0 KA k12 h12 S12 K12
        obtain ⟨⟨dxk, hkq⟩, rdk⟩ := id KA17
        have ol : ord.length = rs.length := by rw [hlen, zl]
        refine ⟨_, rfl, kq, dxk, _, rfl, hkq, ks_no _ (by decide +kernel), kq, d, kvs, rfl, KA17, fun lo flo => ?_⟩
        rw [hpl.keys]
        have s18 : Same H17 (upd H17 lo (.lst (ord.map V.str))) := Same.new flo
        have o18 : (upd H17 lo (.lst (ord.map V.str))) lo = some (.lst (ord.map V.str)) := upd_same
        generalize upd H17 lo (.lst (ord.map V.str)) = H18 at s18 o18 ⊢
        refine ⟨lo, ord, rfl, SqL.of o18, by omega, fun p1 ks1 f1 pm1 pw1 => ?_⟩
        have s19 := s18.trans (Same.new (o := .lst (ks1.map V.str)) f1)
        have o19 : (upd H18 p1 (.lst (ks1.map V.str))) p1 = some (.lst (ks1.map V.str)) := upd_same
        generalize upd H18 p1 (.lst (ks1.map V.str)) = H19 at s19 o19 ⊢
        obtain ⟨r', xr, e, _, hr17, hzr, hxr⟩ := id K17.hr.list_inv
        cases e
        have xl : xr.length = rt.length := by rw [hxr.length, List.length_map]
        refine ⟨_, rfl, r, rfl, ⟨_, SqL.of (s19 _ _ hr17)⟩, comp_list (xs := xr) (fun j ys H' => H19 = H' ∧ ys = ((rt.take j).map (·.name)).map V.str) ⟨rfl, rfl⟩ (fun j ys H' p => by rw [← p.1]; exact SqL.of (s19 _ _ hr17)) (fun j ys H' hi p => ?_) ?_ ?_⟩
        · rw [p.2, List.length_map, List.length_map]
          have h1 := List.length_take_le' j rt
          exact small _ (by omega)
        · rintro j x ys H' hj ⟨rfl, rfl⟩ N hN
          obtain ⟨dd, hdd, hv⟩ := hxr.get hj
          rw [List.getElem?_map] at hdd
          cases er : rt[j]? with
          | none => rw [er] at hdd; cases hdd
          | some row =>
            rw [er] at hdd
            cases hdd
            obtain ⟨t, x1, x2, rfl, _, ht⟩ := row_name hv
            refine pick ⟨_, rfl, t, _, ((0 : Nat) : Int), _, rfl, rfl, SqT.of (s19 _ _ ht), atI_nat rfl, hN _ _ ⟨rfl, ?_⟩⟩
            rw [List.take_add_one, er, List.map_append, List.map_append]
            rfl
        rintro ys H' ⟨rfl, rfl⟩ lc hlc
        rw [xl, List.take_length]
        have s20 := Same.new (o := .lst ((rt.map (·.name)).map V.str)) hlc
        have o20 : (upd H19 lc (.lst ((rt.map (·.name)).map V.str))) lc = some (.lst ((rt.map (·.name)).map V.str)) := upd_same
        generalize upd H19 lc (.lst ((rt.map (·.name)).map V.str)) = H20 at s20 o20 ⊢
        refine ⟨lc, rt.map (·.name), rfl, SqL.of o20, by rw [List.length_map]; omega, fun p2 ks2 f2 pm2 pw2 => ?_⟩
        have s21 := Same.new (o := .lst (ks2.map V.str)) f2
        have o21 : (upd H20 p2 (.lst (ks2.map V.str))) p2 = some (.lst (ks2.map V.str)) := upd_same
        generalize upd H20 p2 (.lst (ks2.map V.str)) = H21 at s21 o21 ⊢
        have rnd := rp.nd
        obtain rfl : ks1 = ks2 := sorted_eq pw1 pw2 (pm1.trans ((ord_perm hgr (by omega) rnd).trans pm2.symm))
        have l2 : ks1.length ≤ 1000 := by rw [pm1.length_eq]; omega
        have ok2 : ∀ x ∈ ks1, nameOk x := fun x hx => by
          obtain ⟨row, mr, rfl⟩ := List.mem_map.mp (pm2.mem_iff.mp hx)
          exact (rp.ok row mr).1
        have D1 : Has Any H21 (.ref p1) (.list (ks1.map PyData.str)) := strs_data trivial (s21 _ _ (s20 _ _ o19)) l2 ok2
        refine ⟨_, _, D1, strs_data trivial o21 l2 ok2, depth_list _, depth_list _, _, rfl, ?_⟩
        rw [D1.eqv]
        refine iteF ?_
        have s1721 := (s19.trans s20).trans s21
        have K21 : Kp C Pt p q lh r l ms rt rs zs H21 := K17.step pq ph (fun b o e _ _ _ => s1721 _ _ e) (K17.hT.same s1721) (by obtain ⟨x, e⟩ := K17.hq; exact ⟨x, s1721 _ _ e⟩) (by obtain ⟨x, e⟩ := K17.hh; exact ⟨x, s1721 _ _ e⟩)
        have KA21 : KindsAt CK H21 kq d kvs := ka_step K17 (fun b o e _ _ _ => s1721 _ _ e) KA17
        have op := ord_perm hgr (by omega) rnd
        clear s1721 D1 o21 s21 o20 s20 hlc o19 s19 f1 o18 s18 flo hkq rdk KA17 K17 hr17 hzr hxr xl f2 pm1 pw1 pm2 pw2
        obtain ⟨⟨dxk, hkq⟩, rdk⟩ := id KA21
        obtain ⟨r', xr, e, _, hr21, hzr, hxr⟩ := id K21.hr.list_inv
        cases e
        refine ⟨_, rfl, r, rfl, ⟨_, SqL.of hr21⟩, for_list (K := K) (a := r) (xs := xr) (fun i σ H' => ∃ x9 x10 x11 x12 : Option V, σ = [some (.ref a), some (.int z), some (.ref q), some (.ref l), some (.ref r), some (.ref lh), some (.ref lk), some (.ref kq), some (.ref lw), x9, x10, x11, x12] ∧ Same H21 H')
          ⟨_, _, _, _, rfl, Same.refl _⟩ (fun i σ H' _ hz => by obtain ⟨_, _, _, _, _, s⟩ := hz; exact SqL.of (s _ _ hr21)) ?_ ?_⟩
        · rintro j x σ H' hj ⟨x9, x10, x11, x12, rfl, s22⟩
          obtain ⟨dd, hdd, hv⟩ := hxr.get hj
          rw [List.getElem?_map] at hdd
          cases er : rt[j]? with
          | none => rw [er] at hdd; cases hdd
          | some row =>
            rw [er] at hdd
            cases hdd
            have mr := List.mem_of_getElem? er
            obtain ⟨onm, ofs⟩ := rp.ok row mr
            obtain ⟨t, lf, rfl, ht, hf⟩ := row_inv hv
            obtain ⟨y, hy, ev, en⟩ := hpl.get row.name (op.mem_iff.mpr (List.mem_map.mpr ⟨row, mr, rfl⟩))
            have ey : y.2 = row := rp.one (by rw [← ez]; exact List.mem_map.mpr ⟨y, hy, rfl⟩) mr en
            obtain ⟨dxy, lfy, e3, h3⟩ := K21.hk y hy
            rw [ey] at e3 h3
            refine ⟨t, _, rfl, SqT.of (s22 _ _ ht), rfl, _, _, rfl, _, _, rfl, _, _, rfl, rfl, ?_⟩
            have rd22 : Rd H' d (.dK kvs) := rd_same s22 rdk
            refine ⟨_, rfl, kq, dxk, _, rfl, s22 _ _ hkq, ks_no _ (by decide +kernel), _, rfl, kq, d, kvs, row.name, _, rfl, onm, ⟨⟨dxk, s22 _ _ hkq⟩, rd22⟩, ev, fun H23 s23 => ?_⟩
            have s24 := s22.trans s23
            have e4 := s24 _ _ e3
            refine ⟨_, rfl, y.1, C, dxy, _, _, rfl, e4, A.KC.cl, A.KC.nN, kf_name _ _ _, _, rfl, rfl, _, rfl, ?_⟩
            rw [show (!decide (V.str row.name = V.str row.name)) = false by simp]
            have h4 : Has Any H23 (.ref lfy) (.list (row.fields.map fieldD)) := (h3.mono s24).any
            refine iteF ⟨_, rfl, y.1, C, dxy, _, _, rfl, e4, A.KC.cl, A.KC.nF, kf_fields _ _ _, _, rfl, _, _, h4, (hf.mono s24).any, depth_flist _, depth_flist _, _, rfl, ?_⟩
            rw [h4.eqv]
            refine iteF ⟨_, rfl, y.1, C, dxy, _, _, rfl, e4, A.KC.cl, A.KC.nO, kf_owner _ _ _, _, rfl, scal_own _, _, rfl, ?_⟩
            rw [show (!decide (ownV row.owner = ownV row.owner)) = false by simp]
            exact iteF ⟨_, _, _, _, rfl, s24⟩
        · rintro σ H' ⟨x9, x10, x11, x12, rfl, s22⟩
          exact ⟨_, _, _, _, _, _, _, _, _, _, _, _, rfl, s22 _ _ K21.hp, K21.hT.same s22⟩
    · rintro σ H2 ⟨u1, u2, u3, u4, u5, u6, u7, u8, u9, v1, v2, v3, rfl, hp2, hT2⟩
      refine ⟨Nat.zero_le _, fun l1 f1 => ?_⟩
      have s1 : Same H2 (upd H2 l1 (.lst [])) := Same.new f1
      have h1 : Has Any (upd H2 l1 (.lst [])) (.ref l1) (.list (([] : List (Str × List Str)).map fieldD)) := .lst trivial upd_same (Nat.zero_le _) .nil
      generalize upd H2 l1 (.lst []) = H3 at s1 h1 ⊢
      intro x dx hx hdx ne
      refine init_own (r := ⟨"a", [], none⟩) hx hdx ne name_a h1 fields_nil (fun o e => nomatch e) fun H4 s4 k4 => ⟨rfl, by show 1 ≤ sizeLine; exact small 1 (by decide), fun l2 f2 => ?_⟩
      have s5 : Same H4 (upd H4 l2 (.lst [.ref x])) := Same.new f2
      have k5 : KindO C (upd H4 l2 (.lst [.ref x])) x ⟨"a", [], none⟩ := k4.mono fun b o e _ => s5 _ _ e
      have h5 : (upd H4 l2 (.lst [.ref x])) l2 = some (.lst ([((x, ⟨"a", [], none⟩) : Addr × Row)].map fun q => V.ref q.1)) := upd_same
      generalize upd H4 l2 (.lst [.ref x]) = H5 at s5 k5 h5 ⊢
      have T5 := hT2.same (s1.trans (s4.trans s5))
      refine ⟨_, rfl, T5, .inr ⟨l2, _, rfl, h5, ⟨fun y hy => ?_, by simp, by show 1 ≤ 50; decide⟩, ⟨_, rows_a, .refl _⟩, fun H6 T6 g6 => ⟨rfl, _, rfl, ?_⟩⟩⟩
      · rw [List.mem_singleton.mp hy]; exact k5
      rw [show decide (V.str "told" = V.str "told") = true by simp]
      refine iteT ?_
      refine ⟨Nat.zero_le _, fun l3 f3 => ?_⟩
      have s7 : Same H6 (upd H6 l3 (.lst [])) := Same.new f3
      have h7 : Has Any (upd H6 l3 (.lst [])) (.ref l3) (.list (([] : List (Str × List Str)).map fieldD)) := .lst trivial upd_same (Nat.zero_le _) .nil
      generalize upd H6 l3 (.lst []) = H7 at s7 h7 ⊢
      intro x2 dx2 hx2 hdx2 ne2
      refine init_own (r := ⟨"a", [], some "b"⟩) hx2 hdx2 ne2 name_a h7 fields_nil (fun o e => by cases e; exact ⟨name_b, by decide +kernel⟩) fun H8 s8 k8 => ⟨rfl, by show 1 ≤ sizeLine; exact small 1 (by decide), fun l4 f4 => ?_⟩
      have s9 : Same H8 (upd H8 l4 (.lst [.ref x2])) := Same.new f4
      have k9 : KindO C (upd H8 l4 (.lst [.ref x2])) x2 ⟨"a", [], some "b"⟩ := k8.mono fun b o e _ => s9 _ _ e
      have h9 : (upd H8 l4 (.lst [.ref x2])) l4 = some (.lst ([((x2, ⟨"a", [], some "b"⟩) : Addr × Row)].map fun q => V.ref q.1)) := upd_same
      generalize upd H8 l4 (.lst [.ref x2]) = H9 at s9 k9 h9 ⊢
      have T9 := T6.same (s7.trans (s8.trans s9))
      refine ⟨_, rfl, T9, .inl ⟨noKs_of h9 (fun y hy => by rw [List.mem_singleton.mp hy]; exact k9) (by show 0 < 1; decide) (by show 1 ≤ 50; decide) (fun y hy => by rw [List.mem_singleton.mp hy]; exact name_a) (fun _ => stuck_b), fun H10 T10 g10 => ⟨rfl, ?_⟩⟩⟩
      rw [show decide (V.str "kind" = V.str "kind") = true by simp]
      exact k _
end
end L2.W
-- MOD K5Q
namespace L2.W
open PySem My
theorem len1 {α : Type} {us : List α} (h : us.length = 1) : ∃ a, us = [a] := List.length_eq_one_iff.mp h
theorem len2 {α : Type} {us : List α} (h : us.length = 2) : ∃ a b, us = [a, b] := by
  cases us with
  | nil => cases h
  | cons a r => obtain ⟨b, rfl⟩ := len1 (show r.length = 1 from Nat.succ.inj h); exact ⟨a, b, rfl⟩
theorem len3 {α : Type} {us : List α} (h : us.length = 3) : ∃ a b c, us = [a, b, c] := by
  cases us with
  | nil => cases h
  | cons a r => obtain ⟨b, c, rfl⟩ := len2 (show r.length = 2 from Nat.succ.inj h); exact ⟨a, b, c, rfl⟩
theorem len4 {α : Type} {us : List α} (h : us.length = 4) : ∃ a b c d, us = [a, b, c, d] := by
  cases us with
  | nil => cases h
  | cons a r => obtain ⟨b, c, d, rfl⟩ := len3 (show r.length = 3 from Nat.succ.inj h); exact ⟨a, b, c, d, rfl⟩
theorem all_mk {l : PySem.W.OpenLaw} {w : World} {K : PySem.W.Frag} {h : Heap} {mg : Str → Option Value} {fx : Addr} (X : K.In h) (G : h.Ns mainGlobals mg) (hfa : mg "law" = some (.ref fx))
    {C CK fI TD c Pt : Addr} {ocI kVI dcI pmI cdI ctI : Value} {odI anI : Option Addr} {slI : Array (Option Value)} {ocT : Value} {odT : Option Addr} {slT : Array (Option Value)} {nT : Nat} {t1 t2 t3 : Tok} {CN CR C1 C2 C3 : Addr}
    {fN : Addr} {ocN kVN dcN pmN ctN : Value} {odN anN : Option Addr} {slN : Array (Option Value)} {cdN : Value}
    {fU : Addr} {ocU kVU dcU pmU ctU : Value} {odU anU : Option Addr} {slU : Array (Option Value)} {cdU : Value}
    {fP : Addr} {ocP kVP dcP pmP ctP : Value} {odP anP : Option Addr} {slP : Array (Option Value)} {cdP : Value}
    {fF : Addr} {ocF kVF dcF pmF ctF : Value} {odF anF : Option Addr} {slF : Array (Option Value)} {cdF : Value}
    {fCt : Addr} {ocCt kVCt dcCt pmCt ctCt : Value} {odCt anCt : Option Addr} {slCt : Array (Option Value)} {cdCt : Value}
    {fA : Addr} {ocA kVA dcA pmA ctA : Value} {odA anA : Option Addr} {slA : Array (Option Value)} {cdA : Value}
    {fp : Addr} {ocp kVp dcp pmp ctp : Value} {odp anp : Option Addr} {slp : Array (Option Value)}
    {fm : Addr} {ocm kVm dcm pmm ctm : Value} {odm anm : Option Addr} {slm : Array (Option Value)} {cdm : Value}
    {fd : Addr} {ocd kVd dcd pmd ctd : Value} {odd and : Option Addr} {sld : Array (Option Value)} {cdd : Value}
    {fn : Addr} {ocn kVn dcn pmn ctn : Value} {odn ann : Option Addr} {sln : Array (Option Value)} {cdn : Value}
    {fg : Addr} {ocg kVg dcg pmg ctg : Value} {odg ang : Option Addr} {slg : Array (Option Value)} {cdg : Value}
    {fa : Addr} {oca kVa dca pma cta : Value} {oda ana : Option Addr} {sla : Array (Option Value)} {cda : Value}
    {fl : Addr} {ocl kVl dcl pml ctl : Value} {odl anl : Option Addr} {sll : Array (Option Value)} {cdl : Value}
    {fS : Addr} {ocS kVS dcS pmS ctS : Value} {odS anS : Option Addr} {slS : Array (Option Value)} {cdS : Value}
    {fTu : Addr} {ocTu kVTu dcTu pmTu ctTu : Value} {odTu anTu : Option Addr} {slTu : Array (Option Value)} {cdTu : Value}
    {fWd : Addr} {ocWd kVWd dcWd pmWd ctWd : Value} {odWd anWd : Option Addr} {slWd : Array (Option Value)} {cdWd : Value}
    {fRi : Addr} {ocRi kVRi dcRi pmRi ctRi : Value} {odRi anRi : Option Addr} {slRi : Array (Option Value)} {cdRi : Value}
    {fB : Addr} {ocB kVB dcB pmB ctB : Value} {odB anB : Option Addr} {slB : Array (Option Value)} {cdB : Value}
    {fL : Addr} {ocL kVL dcL pmL ctL : Value} {odL anL : Option Addr} {slL : Array (Option Value)} {cdL : Value}
    {fIk : Addr} {ocIk kVIk dcIk pmIk cdIk ctIk : Value} {odIk anIk : Option Addr} {slIk : Array (Option Value)}
    {fOr : Addr} {ocOr kVOr dcOr pmOr cdOr ctOr : Value} {odOr anOr : Option Addr} {slOr : Array (Option Value)}
    {fOf : Addr} {ocOf kVOf dcOf pmOf cdOf ctOf : Value} {odOf anOf : Option Addr} {slOf : Array (Option Value)}
    (aCK : PySem.W.nsIn K mainGlobals "Kinds" = some (some (.ref CK)))
    (xaN : PySem.W.nsIn K mainGlobals "is_name" = some (some (.ref fN))) (xlN : K.lookup fN = some ⟨ocN, odN, .func (PySem.W.fnOf "is_name" "is_name" (defArgs sIsName) (defBody sIsName) (defScope sIsName) .none kVN dcN pmN anN cdN ctN), slN⟩) (xcN : PySem.W.codeIn K cdN "is_name" = true) (xkN : PySem.W.keepIn K (.ref fN) = true)
    (xaU : PySem.W.nsIn K mainGlobals "are_unlike_names" = some (some (.ref fU))) (xlU : K.lookup fU = some ⟨ocU, odU, .func (PySem.W.fnOf "are_unlike_names" "are_unlike_names" (defArgs sUnlike) (defBody sUnlike) (defScope sUnlike) .none kVU dcU pmU anU cdU ctU), slU⟩) (xcU : PySem.W.codeIn K cdU "are_unlike_names" = true) (xkU : PySem.W.keepIn K (.ref fU) = true)
    (xaP : PySem.W.nsIn K mainGlobals "is_pair_with_values" = some (some (.ref fP))) (xlP : K.lookup fP = some ⟨ocP, odP, .func (PySem.W.fnOf "is_pair_with_values" "is_pair_with_values" (defArgs sPair) (defBody sPair) (defScope sPair) .none kVP dcP pmP anP cdP ctP), slP⟩) (xcP : PySem.W.codeIn K cdP "is_pair_with_values" = true) (xkP : PySem.W.keepIn K (.ref fP) = true)
    (xaF : PySem.W.nsIn K mainGlobals "are_fields" = some (some (.ref fF))) (xlF : K.lookup fF = some ⟨ocF, odF, .func (PySem.W.fnOf "are_fields" "are_fields" (defArgs sFields) (defBody sFields) (defScope sFields) .none kVF dcF pmF anF cdF ctF), slF⟩) (xcF : PySem.W.codeIn K cdF "are_fields" = true) (xkF : PySem.W.keepIn K (.ref fF) = true)
    (xaCt : PySem.W.nsIn K mainGlobals "count_states" = some (some (.ref fCt))) (xlCt : K.lookup fCt = some ⟨ocCt, odCt, .func (PySem.W.fnOf "count_states" "count_states" (defArgs sCount) (defBody sCount) (defScope sCount) .none kVCt dcCt pmCt anCt cdCt ctCt), slCt⟩) (xcCt : PySem.W.codeIn K cdCt "count_states" = true) (xkCt : PySem.W.keepIn K (.ref fCt) = true)
    (xaA : PySem.W.nsIn K mainGlobals "are_kinds" = some (some (.ref fA))) (xlA : K.lookup fA = some ⟨ocA, odA, .func (PySem.W.fnOf "are_kinds" "are_kinds" (defArgs sAreKinds) (defBody sAreKinds) (defScope sAreKinds) .none kVA dcA pmA anA cdA ctA), slA⟩) (xcA : PySem.W.codeIn K cdA "are_kinds" = true) (xkA : PySem.W.keepIn K (.ref fA) = true)
    (xap : PySem.W.nsIn K mainGlobals "placed_by_owners" = some (some (.ref fp))) (xlp : K.lookup fp = some ⟨ocp, odp, .func (PySem.W.fnOf "placed_by_owners" "placed_by_owners" (defArgs sPlaced) (defBody sPlaced) (defScope sPlaced) .none kVp dcp pmp anp (.ref c) ctp), slp⟩) (xcp : PySem.W.codeIn K (.ref c) "placed_by_owners" = true) (xkp : PySem.W.keepIn K (.ref fp) = true)
    (xam : PySem.W.nsIn K mainGlobals "_law_mixed" = some (some (.ref fm))) (xlm : K.lookup fm = some ⟨ocm, odm, .func (PySem.W.fnOf "_law_mixed" "_law_mixed" (defArgs sMixed) (defBody sMixed) (defScope sMixed) .none kVm dcm pmm anm cdm ctm), slm⟩) (xcm : PySem.W.codeIn K cdm "_law_mixed" = true) (xkm : PySem.W.keepIn K (.ref fm) = true)
    (xad : PySem.W.nsIn K mainGlobals "_law_digits" = some (some (.ref fd))) (xld : K.lookup fd = some ⟨ocd, odd, .func (PySem.W.fnOf "_law_digits" "_law_digits" (defArgs sDigits) (defBody sDigits) (defScope sDigits) .none kVd dcd pmd and cdd ctd), sld⟩) (xcd : PySem.W.codeIn K cdd "_law_digits" = true) (xkd : PySem.W.keepIn K (.ref fd) = true)
    (xan : PySem.W.nsIn K mainGlobals "_law_next" = some (some (.ref fn))) (xln : K.lookup fn = some ⟨ocn, odn, .func (PySem.W.fnOf "_law_next" "_law_next" (defArgs sNext) (defBody sNext) (defScope sNext) .none kVn dcn pmn ann cdn ctn), sln⟩) (xcn : PySem.W.codeIn K cdn "_law_next" = true) (xkn : PySem.W.keepIn K (.ref fn) = true)
    (xag : PySem.W.nsIn K mainGlobals "_law_sign" = some (some (.ref fg))) (xlg : K.lookup fg = some ⟨ocg, odg, .func (PySem.W.fnOf "_law_sign" "_law_sign" (defArgs sSign) (defBody sSign) (defScope sSign) .none kVg dcg pmg ang cdg ctg), slg⟩) (xcg : PySem.W.codeIn K cdg "_law_sign" = true) (xkg : PySem.W.keepIn K (.ref fg) = true)
    (xaa : PySem.W.nsIn K mainGlobals "_law_names" = some (some (.ref fa))) (xla : K.lookup fa = some ⟨oca, oda, .func (PySem.W.fnOf "_law_names" "_law_names" (defArgs sNames) (defBody sNames) (defScope sNames) .none kVa dca pma ana cda cta), sla⟩) (xca : PySem.W.codeIn K cda "_law_names" = true) (xka : PySem.W.keepIn K (.ref fa) = true)
    (xal : PySem.W.nsIn K mainGlobals "_law_fields" = some (some (.ref fl))) (xll : K.lookup fl = some ⟨ocl, odl, .func (PySem.W.fnOf "_law_fields" "_law_fields" (defArgs sLFields) (defBody sLFields) (defScope sLFields) .none kVl dcl pml anl cdl ctl), sll⟩) (xcl : PySem.W.codeIn K cdl "_law_fields" = true) (xkl : PySem.W.keepIn K (.ref fl) = true)
    (xaS : PySem.W.nsIn K mainGlobals "_law_specs" = some (some (.ref fS))) (xlS : K.lookup fS = some ⟨ocS, odS, .func (PySem.W.fnOf "_law_specs" "_law_specs" (defArgs sSpecs) (defBody sSpecs) (defScope sSpecs) .none kVS dcS pmS anS cdS ctS), slS⟩) (xcS : PySem.W.codeIn K cdS "_law_specs" = true) (xkS : PySem.W.keepIn K (.ref fS) = true)
    (xaTu : PySem.W.nsIn K mainGlobals "_law_turned" = some (some (.ref fTu))) (xlTu : K.lookup fTu = some ⟨ocTu, odTu, .func (PySem.W.fnOf "_law_turned" "_law_turned" (defArgs sTurned) (defBody sTurned) (defScope sTurned) .none kVTu dcTu pmTu anTu cdTu ctTu), slTu⟩) (xcTu : PySem.W.codeIn K cdTu "_law_turned" = true) (xkTu : PySem.W.keepIn K (.ref fTu) = true)
    (xaWd : PySem.W.nsIn K mainGlobals "_law_word" = some (some (.ref fWd))) (xlWd : K.lookup fWd = some ⟨ocWd, odWd, .func (PySem.W.fnOf "_law_word" "_law_word" (defArgs sWord) (defBody sWord) (defScope sWord) .none kVWd dcWd pmWd anWd cdWd ctWd), slWd⟩) (xcWd : PySem.W.codeIn K cdWd "_law_word" = true) (xkWd : PySem.W.keepIn K (.ref fWd) = true)
    (xaRi : PySem.W.nsIn K mainGlobals "_law_ring" = some (some (.ref fRi))) (xlRi : K.lookup fRi = some ⟨ocRi, odRi, .func (PySem.W.fnOf "_law_ring" "_law_ring" (defArgs sRing) (defBody sRing) (defScope sRing) .none kVRi dcRi pmRi anRi cdRi ctRi), slRi⟩) (xcRi : PySem.W.codeIn K cdRi "_law_ring" = true) (xkRi : PySem.W.keepIn K (.ref fRi) = true)
    (xaB : PySem.W.nsIn K mainGlobals "_law_bad" = some (some (.ref fB))) (xlB : K.lookup fB = some ⟨ocB, odB, .func (PySem.W.fnOf "_law_bad" "_law_bad" (defArgs sBad) (defBody sBad) (defScope sBad) .none kVB dcB pmB anB cdB ctB), slB⟩) (xcB : PySem.W.codeIn K cdB "_law_bad" = true) (xkB : PySem.W.keepIn K (.ref fB) = true)
    (xaL : PySem.W.nsIn K mainGlobals "law" = some (some (.ref fL))) (xlL : K.lookup fL = some ⟨ocL, odL, .func (PySem.W.fnOf "law" "law" (defArgs sLaw) (defBody sLaw) (defScope sLaw) .none kVL dcL pmL anL cdL ctL), slL⟩) (xcL : PySem.W.codeIn K cdL "law" = true) (xkL : PySem.W.keepIn K (.ref fL) = true)
    (xaIk : PySem.W.findIn K (.ref CK) "__init__" = some (some (.ref fIk))) (xiIk : PySem.W.isFn K (.ref fIk) = true) (xlIk : K.lookup fIk = some ⟨ocIk, odIk, .func (PySem.W.fnOf "__init__" "Kinds.__init__" (defArgs sInitKs) (defBody sInitKs) (defScope sInitKs) .none kVIk dcIk pmIk anIk cdIk ctIk), slIk⟩) (xcIk : PySem.W.codeIn K cdIk "Kinds.__init__" = true) (xkIk : PySem.W.keepIn K (.ref fIk) = true)
    (xaOr : PySem.W.findIn K (.ref CK) "order" = some (some (.ref fOr))) (xiOr : PySem.W.isFn K (.ref fOr) = true) (xlOr : K.lookup fOr = some ⟨ocOr, odOr, .func (PySem.W.fnOf "order" "Kinds.order" (defArgs sOrder) (defBody sOrder) (defScope sOrder) .none kVOr dcOr pmOr anOr cdOr ctOr), slOr⟩) (xcOr : PySem.W.codeIn K cdOr "Kinds.order" = true) (xkOr : PySem.W.keepIn K (.ref fOr) = true)
    (xaOf : PySem.W.findIn K (.ref CK) "of" = some (some (.ref fOf))) (xiOf : PySem.W.isFn K (.ref fOf) = true) (xlOf : K.lookup fOf = some ⟨ocOf, odOf, .func (PySem.W.fnOf "of" "Kinds.of" (defArgs sOf) (defBody sOf) (defScope sOf) .none kVOf dcOf pmOf anOf cdOf ctOf), slOf⟩) (xcOf : PySem.W.codeIn K cdOf "Kinds.of" = true) (xkOf : PySem.W.keepIn K (.ref fOf) = true)
    (aC : PySem.W.nsIn K mainGlobals "Kind" = some (some (.ref C))) (aI : PySem.W.findIn K (.ref C) "__init__" = some (some (.ref fI))) (iI : PySem.W.isFn K (.ref fI) = true)
    (lI : K.lookup fI = some ⟨ocI, odI, .func (PySem.W.fnOf "__init__" "Kind.__init__" (defArgs sInit) (defBody sInit) (defScope sInit) (.ref TD) kVI dcI pmI anI cdI ctI), slI⟩) (cI : PySem.W.codeIn K cdI "Kind.__init__" = true)
    (lT : K.lookup TD = some ⟨ocT, odT, .seq #[.none] nT, slT⟩)
    (pg : PySem.W.plainGet K C Str.empty = true) (hd : PySem.W.hasDictIn K C = true) (po : PySem.W.plainOver K C = true) (sa : PySem.W.findIn K (.ref C) "__setattr__" = some (some (.builtin "object.__setattr__"))) (mk : PySem.W.makesIn K C = true) (kc : PySem.W.keepIn K (.ref C) = true)
    (nN : PySem.W.findIn K (.ref C) "name" = some none) (nF : PySem.W.findIn K (.ref C) "fields" = some none) (nO : PySem.W.findIn K (.ref C) "owner" = some none)
    (ha : PySem.W.findIn K (.ref C) "__class__" = some (some (.builtin "object.__class__"))) (hn : PySem.W.specialIn K (.builtin "object.__class__") "__get__" = some (some (.builtin "getset_descriptor.__get__"))) (htk : PySem.W.takesIn K (.builtin "object.__class__") = some true) (hm : PySem.W.mroIn K C (.type "object") = some true) (hki : PySem.W.kitOne K (.ref C) (.ref C) = some true)
    (gpg : PySem.W.plainGet K CK Str.empty = true) (ghd : PySem.W.hasDictIn K CK = true) (gpo : PySem.W.plainOver K CK = true) (gsa : PySem.W.findIn K (.ref CK) "__setattr__" = some (some (.builtin "object.__setattr__"))) (gmk : PySem.W.makesIn K CK = true) (gkc : PySem.W.keepIn K (.ref CK) = true) (gnB : PySem.W.findIn K (.ref CK) "by_name" = some none)
    (hcd : PySem.W.codeHdIn K c Pt = true) (hout : K.lookup Pt = none)
    (cL : PySem.W.nsIn K mainGlobals "LETTERS" = some (some (.str letters t1))) (cM : PySem.W.nsIn K mainGlobals "MOST_LETTERS" = some (some (.int 8 t2))) (cS : PySem.W.nsIn K mainGlobals "MOST_STATES" = some (some (.int 8 t3)))
    (aN : PySem.W.nsIn K mainGlobals "NoKind" = some (some (.ref CN))) (aR : PySem.W.nsIn K mainGlobals "RestError" = some (some (.ref CR))) (a1 : PySem.W.nsIn K mainGlobals "NoName" = some (some (.ref C1))) (a2 : PySem.W.nsIn K mainGlobals "NoWish" = some (some (.ref C2))) (a3 : PySem.W.nsIn K mainGlobals "TooMany" = some (some (.ref C3)))
    (zVE : PySem.W.nsIn K mainGlobals "ValueError" = some none)
    (xex : PySem.W.excIn K CN [.type "ValueError", .type "Exception", .type "BaseException", .type "object"] "ValueError.__new__" = true) (xga : PySem.W.findIn K (.ref CN) "__getattribute__" = some (some (.builtin "BaseException.__getattribute__"))) (xgt : PySem.W.findIn K (.ref CN) "__getattr__" = some none) (xcf : PySem.W.findIn K (.ref CN) "__class__" = some (some (.builtin "object.__class__"))) (xob : PySem.W.mroIn K CN (.type "object") = some true)
    (xem : PySem.W.exmOne K (.ref CN) (.ref CR) = some true) (xon : PySem.W.kitOne K (.ref CN) (.ref CN) = some true) (xva : PySem.W.kitOne K (.ref CN) (.type "ValueError") = some true) (xot : PySem.W.kitAny K (.ref CN) [.ref C1, .ref C2, .ref C3] = some false)
    (nL : PySem.W.kitOne K (.ref C) (.type "list") = some false) (ns' : PySem.W.kitOne K (.type "str") (.ref C) = some false) (nn' : PySem.W.kitOne K (.type "NoneType") (.ref C) = some false) (nt' : PySem.W.kitOne K (.type "tuple") (.ref C) = some false) (nb' : PySem.W.kitOne K (.type "bool") (.ref C) = some false) (ni' : PySem.W.kitOne K (.type "int") (.ref C) = some false) (nl' : PySem.W.kitOne K (.type "list") (.ref C) = some false)
    (z_isinstance : PySem.W.nsIn K mainGlobals "isinstance" = some none)
    (z_len : PySem.W.nsIn K mainGlobals "len" = some none)
    (z_all : PySem.W.nsIn K mainGlobals "all" = some none)
    (z_set : PySem.W.nsIn K mainGlobals "set" = some none)
    (z_range : PySem.W.nsIn K mainGlobals "range" = some none)
    (z_str : PySem.W.nsIn K mainGlobals "str" = some none)
    (z_list : PySem.W.nsIn K mainGlobals "list" = some none)
    (z_tuple : PySem.W.nsIn K mainGlobals "tuple" = some none)
    (z_zip : PySem.W.nsIn K mainGlobals "zip" = some none)
    (z_dict : PySem.W.nsIn K mainGlobals "dict" = some none)
    (z_min : PySem.W.nsIn K mainGlobals "min" = some none)
    (z_sorted : PySem.W.nsIn K mainGlobals "sorted" = some none)
    (z_enumerate : PySem.W.nsIn K mainGlobals "enumerate" = some none)
    (z_int : PySem.W.nsIn K mainGlobals "int" = some none) :
    ∃ fd : FuncData, (∀ (s : Shared) (v : Value), BindsTo s fd ⟨[v], []⟩ [("_law_script", v)]) ∧ K.lookup Pt = none ∧ (∃ c, PySem.W.codeHdIn K c Pt = true) ∧ ∀ base : Heap, K.In base → base.Ns mainGlobals mg → BltAt mg base → FnOk l.prog w K mg base CX0 9 fx fd ["_law_script"] (spLaw5 K Pt) := by
  have e := hfa.symm.trans (PySem.W.mg_of X G xaL)
  cases e
  have T : Tops K mg := ⟨PySem.W.mg_none_of X G z_isinstance, PySem.W.mg_none_of X G z_len, PySem.W.mg_none_of X G z_all, PySem.W.mg_none_of X G z_set, PySem.W.mg_none_of X G z_range, PySem.W.mg_none_of X G z_str, PySem.W.mg_none_of X G z_list, PySem.W.mg_none_of X G z_tuple, PySem.W.mg_none_of X G z_zip, PySem.W.mg_none_of X G z_dict, PySem.W.mg_none_of X G z_min, PySem.W.mg_none_of X G z_sorted, PySem.W.mg_none_of X G z_enumerate, PySem.W.mg_none_of X G z_int, ⟨_, PySem.W.mg_of X G cL⟩, ⟨_, PySem.W.mg_of X G cM⟩, ⟨_, PySem.W.mg_of X G cS⟩⟩
  have FN := fun_mk (st := sIsName) xlN xcN xkN
  have DN : Def K mg "is_name" sIsName ["thing"] fN _ := ⟨FN, PySem.W.mg_of X G xaN, FN.binds (ps := ["thing"]) fun _ _ _ _ _ _ us hl => by obtain ⟨z0, rfl⟩ := len1 hl; rfl⟩
  have FU := fun_mk (st := sUnlike) xlU xcU xkU
  have DU : Def K mg "are_unlike_names" sUnlike ["things"] fU _ := ⟨FU, PySem.W.mg_of X G xaU, FU.binds (ps := ["things"]) fun _ _ _ _ _ _ us hl => by obtain ⟨z0, rfl⟩ := len1 hl; rfl⟩
  have FP := fun_mk (st := sPair) xlP xcP xkP
  have DP : Def K mg "is_pair_with_values" sPair ["thing"] fP _ := ⟨FP, PySem.W.mg_of X G xaP, FP.binds (ps := ["thing"]) fun _ _ _ _ _ _ us hl => by obtain ⟨z0, rfl⟩ := len1 hl; rfl⟩
  have FF := fun_mk (st := sFields) xlF xcF xkF
  have DF : Def K mg "are_fields" sFields ["things"] fF _ := ⟨FF, PySem.W.mg_of X G xaF, FF.binds (ps := ["things"]) fun _ _ _ _ _ _ us hl => by obtain ⟨z0, rfl⟩ := len1 hl; rfl⟩
  have FCt := fun_mk (st := sCount) xlCt xcCt xkCt
  have DCt : Def K mg "count_states" sCount ["fields"] fCt _ := ⟨FCt, PySem.W.mg_of X G xaCt, FCt.binds (ps := ["fields"]) fun _ _ _ _ _ _ us hl => by obtain ⟨z0, rfl⟩ := len1 hl; rfl⟩
  have FA := fun_mk (st := sAreKinds) xlA xcA xkA
  have DA : Def K mg "are_kinds" sAreKinds ["things"] fA _ := ⟨FA, PySem.W.mg_of X G xaA, FA.binds (ps := ["things"]) fun _ _ _ _ _ _ us hl => by obtain ⟨z0, rfl⟩ := len1 hl; rfl⟩
  have Fp : FunL K "placed_by_owners" "placed_by_owners" sPlaced fp _ c := ⟨⟨ocp, odp, kVp, dcp, pmp, anp, ctp, slp, rfl, xlp, xcp⟩, xkp⟩
  have bp := Fp.fn.binds (ps := ["kinds"]) fun _ _ _ _ _ _ us hl => by obtain ⟨z0, rfl⟩ := len1 hl; rfl
  have Fm := fun_mk (st := sMixed) xlm xcm xkm
  have Dm : Def K mg "_law_mixed" sMixed ["_law_cell", "_law_k"] fm _ := ⟨Fm, PySem.W.mg_of X G xam, Fm.binds (ps := ["_law_cell", "_law_k"]) fun _ _ _ _ _ _ us hl => by obtain ⟨z0, z1, rfl⟩ := len2 hl; rfl⟩
  have Fd := fun_mk (st := sDigits) xld xcd xkd
  have Dd : Def K mg "_law_digits" sDigits ["_law_cell"] fd _ := ⟨Fd, PySem.W.mg_of X G xad, Fd.binds (ps := ["_law_cell"]) fun _ _ _ _ _ _ us hl => by obtain ⟨z0, rfl⟩ := len1 hl; rfl⟩
  have Fn := fun_mk (st := sNext) xln xcn xkn
  have Dn : Def K mg "_law_next" sNext ["_law_source", "_law_many"] fn _ := ⟨Fn, PySem.W.mg_of X G xan, Fn.binds (ps := ["_law_source", "_law_many"]) fun _ _ _ _ _ _ us hl => by obtain ⟨z0, z1, rfl⟩ := len2 hl; rfl⟩
  have Fg := fun_mk (st := sSign) xlg xcg xkg
  have Dg : Def K mg "_law_sign" sSign ["_law_sign_here", "_law_turn"] fg _ := ⟨Fg, PySem.W.mg_of X G xag, Fg.binds (ps := ["_law_sign_here", "_law_turn"]) fun _ _ _ _ _ _ us hl => by obtain ⟨z0, z1, rfl⟩ := len2 hl; rfl⟩
  have Fa := fun_mk (st := sNames) xla xca xka
  have Da : Def K mg "_law_names" sNames ["_law_source", "_law_many"] fa _ := ⟨Fa, PySem.W.mg_of X G xaa, Fa.binds (ps := ["_law_source", "_law_many"]) fun _ _ _ _ _ _ us hl => by obtain ⟨z0, z1, rfl⟩ := len2 hl; rfl⟩
  have Fl := fun_mk (st := sLFields) xll xcl xkl
  have Dl : Def K mg "_law_fields" sLFields ["_law_source"] fl _ := ⟨Fl, PySem.W.mg_of X G xal, Fl.binds (ps := ["_law_source"]) fun _ _ _ _ _ _ us hl => by obtain ⟨z0, rfl⟩ := len1 hl; rfl⟩
  have FS := fun_mk (st := sSpecs) xlS xcS xkS
  have DS : Def K mg "_law_specs" sSpecs ["_law_source"] fS _ := ⟨FS, PySem.W.mg_of X G xaS, FS.binds (ps := ["_law_source"]) fun _ _ _ _ _ _ us hl => by obtain ⟨z0, rfl⟩ := len1 hl; rfl⟩
  have FTu := fun_mk (st := sTurned) xlTu xcTu xkTu
  have DTu : Def K mg "_law_turned" sTurned ["_law_source", "_law_things"] fTu _ := ⟨FTu, PySem.W.mg_of X G xaTu, FTu.binds (ps := ["_law_source", "_law_things"]) fun _ _ _ _ _ _ us hl => by obtain ⟨z0, z1, rfl⟩ := len2 hl; rfl⟩
  have FWd := fun_mk (st := sWord) xlWd xcWd xkWd
  have DWd : Def K mg "_law_word" sWord ["_law_things"] fWd _ := ⟨FWd, PySem.W.mg_of X G xaWd, FWd.binds (ps := ["_law_things"]) fun _ _ _ _ _ _ us hl => by obtain ⟨z0, rfl⟩ := len1 hl; rfl⟩
  have FRi := fun_mk (st := sRing) xlRi xcRi xkRi
  have DRi : Def K mg "_law_ring" sRing ["_law_source", "_law_kinds"] fRi _ := ⟨FRi, PySem.W.mg_of X G xaRi, FRi.binds (ps := ["_law_source", "_law_kinds"]) fun _ _ _ _ _ _ us hl => by obtain ⟨z0, z1, rfl⟩ := len2 hl; rfl⟩
  have FB := fun_mk (st := sBad) xlB xcB xkB
  have DB : Def K mg "_law_bad" sBad ["_law_source", "_law_kinds"] fB _ := ⟨FB, PySem.W.mg_of X G xaB, FB.binds (ps := ["_law_source", "_law_kinds"]) fun _ _ _ _ _ _ us hl => by obtain ⟨z0, z1, rfl⟩ := len2 hl; rfl⟩
  have FL := fun_mk (st := sLaw) xlL xcL xkL
  have FIk := fun_mk (st := sInitKs) xlIk xcIk xkIk
  have bIk := FIk.binds (ps := ["self", "kinds"]) fun _ _ _ _ _ _ us hl => by obtain ⟨z0, z1, rfl⟩ := len2 hl; rfl
  have FOr := fun_mk (st := sOrder) xlOr xcOr xkOr
  have bOr := FOr.binds (ps := ["self"]) fun _ _ _ _ _ _ us hl => by obtain ⟨z0, rfl⟩ := len1 hl; rfl
  have FOf := fun_mk (st := sOf) xlOf xcOf xkOf
  have bOf := FOf.binds (ps := ["self", "name"]) fun _ _ _ _ _ _ us hl => by obtain ⟨z0, z1, rfl⟩ := len2 hl; rfl
  have FI : FunD K "__init__" "Kind.__init__" sInit (.ref TD) fI _ := ⟨⟨ocI, odI, kVI, dcI, pmI, anI, cdI, ctI, slI, rfl, lI, cI⟩⟩
  have KC : KCls K mg C fI := ⟨⟨pg, hd, po, sa⟩, nN, nF, nO, PySem.W.mg_of X G aC, ⟨mk, aI, iI, kc⟩⟩
  have KS : KsCls K mg CK fIk fOr fOf 0 := ⟨⟨gpg, ghd, gpo, gsa⟩, gnB, PySem.W.mg_of X G aCK, ⟨gmk, xaIk, xiIk, gkc⟩, ⟨xaOr, xiOr, xkOr⟩, ⟨xaOf, xiOf, xkOf⟩⟩
  have bK : Binds K (PySem.W.fnOf "__init__" "Kind.__init__" (defArgs sInit) (defBody sInit) (defScope sInit) (.ref TD) kVI dcI pmI anI cdI ctI) ["self", "name", "fields", "owner"] [] := by
    intro s us hK hl
    rw [List.append_nil] at hl ⊢
    obtain ⟨a, n, f, o, rfl⟩ := len4 hl
    exact PySem.W.binds_K hK rfl lT rfl (by rfl) (by rfl)
  have bK2 : Binds K (PySem.W.fnOf "__init__" "Kind.__init__" (defArgs sInit) (defBody sInit) (defScope sInit) (.ref TD) kVI dcI pmI anI cdI ctI) ["self", "name", "fields", "owner"] [.none] := by
    intro s us hK hl
    rw [List.length_append] at hl
    obtain ⟨a, n, f, rfl⟩ := len3 (Nat.succ.inj hl)
    exact PySem.W.binds_K hK rfl lT rfl (by rfl) (by rfl)
  have xt : XTop K mg "NoKind" CN := ⟨PySem.W.mg_of X G aN, xex⟩
  have rf : Refs K mg CN CR C1 C2 C3 := ⟨xt, ⟨xex, xga, xgt, xcf, xob⟩, PySem.W.mg_of X G aR, PySem.W.mg_of X G a1, PySem.W.mg_of X G a2, PySem.W.mg_of X G a3, PySem.W.mg_none_of X G zVE, xem, xon, xva, xot⟩
  refine ⟨PySem.W.fnOf "law" "law" (defArgs sLaw) (defBody sLaw) (defScope sLaw) .none kVL dcL pmL anL cdL ctL, fun s v => .of_eq rfl, hout, ⟨c, hcd⟩, fun base _ _ bl => (ok_law5 FL ⟨T, DN, DU, DP, DF, DCt, FI, KC, ⟨ha, hn, htk, hm, hki⟩, ⟨nL, ns', nn', nt', nb', ni', nl'⟩, bK, bK2, DA, Fp, PySem.W.mg_of X G xap, bp, ⟨hcd, bl⟩, FIk, bIk, FOr, bOr, FOf, bOf, KS, rf, Dm, Dd, Dn, Dg, Da, Dl, DS, DTu, DWd, DRi, DB⟩).calm calmM⟩
theorem walk {l : PySem.W.OpenLaw} {q : Program} {loose : List Str} {XP : (Str → Option Value) → Heap → Prop} {YP : World → Heap → Prop} {d : DefRec} {K : Params → PySem.W.Frag} {Pt : Addr} (hn : l.most = some 63) (hdf : d.params.defaults = [])
    (hY : ∀ (w : World) (h : Heap), YP w h → (K w.params).In h ∧ h.get? Pt = some (PySem.W.tabObj #[]))
    (F : ∀ (w : World) (mg : Str → Option Value) (fa : Addr) (h : Heap), (K w.params).In h → h.Ns mainGlobals mg → mg d.name = some (.ref fa) →
      ∃ fd : FuncData, (∀ (s : Shared) (u : Value), BindsTo s fd ⟨[u], []⟩ [("_law_script", u)]) ∧ (K w.params).lookup Pt = none ∧ (∃ c, PySem.W.codeHdIn (K w.params) c Pt = true) ∧ ∀ base : Heap, (K w.params).In base → base.Ns mainGlobals mg → BltAt mg base → FnOk l.prog w (K w.params) mg base CX0 9 fa fd ["_law_script"] (spLaw5 (K w.params) Pt)) :
    PySem.W.WalkO q loose XP YP l.row.toRowW d [] (fun f vs => PySem.call f vs) := by
  refine Att.attach_call hn hdf fun w s₀ s₁ mg mb fa o pm cd doc a vs ns G Y ho hd hcd hmg hobj hints hlen hg => ?_
  obtain ⟨KX, hT⟩ := hY w _ Y
  obtain ⟨fd, hb, hout, ⟨c, hc⟩, hF⟩ := F w mg fa _ KX G.T.g hmg
  exact law_callT KX G.T.g G.T.b G.T.builtins G.T.nolimit hg (blt_of G.T) hT hout hc hobj hints (Nat.le_trans hlen (by decide)) ⟨rfl, by decide, by decide⟩ hF hb (fun H hO hS => ⟨a, ns, rfl, hS, hlen, .inl hO.1, fun _ => rfl⟩) fun _ _ _ z => z
end L2.W
-- MOD K5R
open PySem PySem.W PyProof.Rows
set_option maxRecDepth 100000 in
set_option maxHeartbeats 0 in
theorem PySem.Challenge.cw_cometorest_k05_what_makes_no_kinds_holds : PySem.Challenge.rw_cometorest_k05_what_makes_no_kinds.Holds := by
  w_on; o_law; k_head; (case hw => w_witness2)
  k_fill
  refine L2.W.walk (l := PySem.Challenge.rw_cometorest_k05_what_makes_no_kinds) rfl rfl (fun w h Y => ⟨PySem.W.km_in_of Y, PySem.W.km_tabs_of Y _ (List.Mem.head _)⟩) ?F
  case F =>
    intro w mg fa h KX G hmg
    refine' L2.W.all_mk KX G hmg ?aCK ?xaN ?xlN ?xcN ?xkN ?xaU ?xlU ?xcU ?xkU ?xaP ?xlP ?xcP ?xkP ?xaF ?xlF ?xcF ?xkF ?xaCt ?xlCt ?xcCt ?xkCt ?xaA ?xlA ?xcA ?xkA ?xap ?xlp ?xcp ?xkp ?xam ?xlm ?xcm ?xkm ?xad ?xld ?xcd ?xkd ?xan ?xln ?xcn ?xkn ?xag ?xlg ?xcg ?xkg ?xaa ?xla ?xca ?xka ?xal ?xll ?xcl ?xkl ?xaS ?xlS ?xcS ?xkS ?xaTu ?xlTu ?xcTu ?xkTu ?xaWd ?xlWd ?xcWd ?xkWd ?xaRi ?xlRi ?xcRi ?xkRi ?xaB ?xlB ?xcB ?xkB ?xaL ?xlL ?xcL ?xkL ?xaIk ?xiIk ?xlIk ?xcIk ?xkIk ?xaOr ?xiOr ?xlOr ?xcOr ?xkOr ?xaOf ?xiOf ?xlOf ?xcOf ?xkOf ?aC ?aI ?iI ?lI ?cI ?lT ?pg ?hd ?po ?sa ?mk ?kc ?nN ?nF ?nO ?ha ?hn ?htk ?hm ?hki ?gpg ?ghd ?gpo ?gsa ?gmk ?gkc ?gnB ?hcd ?hout ?cL ?cM ?cS ?aN ?aR ?a1 ?a2 ?a3 ?zVE ?xex ?xga ?xgt ?xcf ?xob ?xem ?xon ?xva ?xot ?nL ?ns' ?nn' ?nt' ?nb' ?ni' ?nl' ?z_isinstance ?z_len ?z_all ?z_set ?z_range ?z_str ?z_list ?z_tuple ?z_zip ?z_dict ?z_min ?z_sorted ?z_enumerate ?z_int
    (case aCK => k_is)
    (case xaN => k_is)
    (case xlN => first | k_is | rfl | kernel_rfl | decide +kernel)
    (case xcN => first | k_is | rfl | kernel_rfl | decide +kernel)
    (case xkN => k_is)
    (case xaU => k_is)
    (case xlU => first | k_is | rfl | kernel_rfl | decide +kernel)
    (case xcU => first | k_is | rfl | kernel_rfl | decide +kernel)
    (case xkU => k_is)
    (case xaP => k_is)
    (case xlP => first | k_is | rfl | kernel_rfl | decide +kernel)
    (case xcP => first | k_is | rfl | kernel_rfl | decide +kernel)
    (case xkP => k_is)
    (case xaF => k_is)
    (case xlF => first | k_is | rfl | kernel_rfl | decide +kernel)
    (case xcF => first | k_is | rfl | kernel_rfl | decide +kernel)
    (case xkF => k_is)
    (case xaCt => k_is)
    (case xlCt => k_is)
    (case xcCt => k_is)
    (case xkCt => k_is)
    (case xaA => k_is)
    (case xlA => first | k_is | rfl | kernel_rfl | decide +kernel)
    (case xcA => first | k_is | rfl | kernel_rfl | decide +kernel)
    (case xkA => k_is)
    (case xap => k_is)
    (case xlp => first | k_is | rfl | kernel_rfl | decide +kernel)
    (case xcp => first | k_is | rfl | kernel_rfl | decide +kernel)
    (case xkp => k_is)
    (case xam => k_is)
    (case xlm => first | k_is | rfl | kernel_rfl | decide +kernel)
    (case xcm => first | k_is | rfl | kernel_rfl | decide +kernel)
    (case xkm => k_is)
    (case xad => k_is)
    (case xld => first | k_is | rfl | kernel_rfl | decide +kernel)
    (case xcd => first | k_is | rfl | kernel_rfl | decide +kernel)
    (case xkd => k_is)
    (case xan => k_is)
    (case xln => first | k_is | rfl | kernel_rfl | decide +kernel)
    (case xcn => first | k_is | rfl | kernel_rfl | decide +kernel)
    (case xkn => k_is)
    (case xag => k_is)
    (case xlg => first | k_is | rfl | kernel_rfl | decide +kernel)
    (case xcg => first | k_is | rfl | kernel_rfl | decide +kernel)
    (case xkg => k_is)
    (case xaa => k_is)
    (case xla => first | k_is | rfl | kernel_rfl | decide +kernel)
    (case xca => first | k_is | rfl | kernel_rfl | decide +kernel)
    (case xka => k_is)
    (case xal => k_is)
    (case xll => first | k_is | rfl | kernel_rfl | decide +kernel)
    (case xcl => first | k_is | rfl | kernel_rfl | decide +kernel)
    (case xkl => k_is)
    (case xaS => k_is)
    (case xlS => first | k_is | rfl | kernel_rfl | decide +kernel)
    (case xcS => first | k_is | rfl | kernel_rfl | decide +kernel)
    (case xkS => k_is)
    (case xaTu => k_is)
    (case xlTu => k_is)
    (case xcTu => k_is)
    (case xkTu => k_is)
    (case xaWd => k_is)
    (case xlWd => k_is)
    (case xcWd => k_is)
    (case xkWd => k_is)
    (case xaRi => k_is)
    (case xlRi => k_is)
    (case xcRi => k_is)
    (case xkRi => k_is)
    (case xaB => k_is)
    (case xlB => first | k_is | rfl | kernel_rfl | decide +kernel)
    (case xcB => first | k_is | rfl | kernel_rfl | decide +kernel)
    (case xkB => k_is)
    (case xaL => k_is)
    (case xlL => first | k_is | rfl | kernel_rfl | decide +kernel)
    (case xcL => first | k_is | rfl | kernel_rfl | decide +kernel)
    (case xkL => k_is)
    (case xaIk => k_is)
    (case xiIk => k_is)
    (case xlIk => k_is)
    (case xcIk => k_is)
    (case xkIk => k_is)
    (case xaOr => k_is)
    (case xiOr => k_is)
    (case xlOr => k_is)
    (case xcOr => k_is)
    (case xkOr => k_is)
    (case xaOf => k_is)
    (case xiOf => k_is)
    (case xlOf => k_is)
    (case xcOf => k_is)
    (case xkOf => k_is)
    (case aC => k_is)
    (case aI => k_is)
    (case iI => k_is)
    (case lI => k_is)
    (case cI => k_is)
    (case lT => k_is)
    (case pg => k_is)
    (case hd => k_is)
    (case po => k_is)
    (case sa => k_is)
    (case mk => k_is)
    (case kc => k_is)
    (case nN => k_is)
    (case nF => k_is)
    (case nO => k_is)
    (case ha => k_is)
    (case hn => k_is)
    (case htk => k_is)
    (case hm => k_is)
    (case hki => first | k_is | rfl | kernel_rfl | decide +kernel)
    (case gpg => k_is)
    (case ghd => k_is)
    (case gpo => k_is)
    (case gsa => k_is)
    (case gmk => k_is)
    (case gkc => k_is)
    (case gnB => k_is)
    (case hcd => first | k_is | rfl | kernel_rfl | decide +kernel)
    (case hout => first | k_is | rfl | kernel_rfl | decide +kernel)
    (case cL => k_is)
    (case cM => k_is)
    (case cS => k_is)
    (case aN => k_is)
    (case aR => k_is)
    (case a1 => k_is)
    (case a2 => k_is)
    (case a3 => k_is)
    (case zVE => k_is)
    (case xex => first | k_is | rfl | kernel_rfl | decide +kernel)
    (case xga => first | k_is | rfl | kernel_rfl | decide +kernel)
    (case xgt => first | k_is | rfl | kernel_rfl | decide +kernel)
    (case xcf => first | k_is | rfl | kernel_rfl | decide +kernel)
    (case xob => first | k_is | rfl | kernel_rfl | decide +kernel)
    (case xem => first | k_is | rfl | kernel_rfl | decide +kernel)
    (case xon => first | k_is | rfl | kernel_rfl | decide +kernel)
    (case xva => first | k_is | rfl | kernel_rfl | decide +kernel)
    (case xot => first | k_is | rfl | kernel_rfl | decide +kernel)
    (case nL => first | k_is | rfl | kernel_rfl | decide +kernel)
    (case ns' => first | k_is | rfl | kernel_rfl | decide +kernel)
    (case nn' => first | k_is | rfl | kernel_rfl | decide +kernel)
    (case nt' => first | k_is | rfl | kernel_rfl | decide +kernel)
    (case nb' => first | k_is | rfl | kernel_rfl | decide +kernel)
    (case ni' => first | k_is | rfl | kernel_rfl | decide +kernel)
    (case nl' => first | k_is | rfl | kernel_rfl | decide +kernel)
    (case z_isinstance => k_is)
    (case z_len => k_is)
    (case z_all => k_is)
    (case z_set => k_is)
    (case z_range => k_is)
    (case z_str => k_is)
    (case z_list => k_is)
    (case z_tuple => k_is)
    (case z_zip => k_is)
    (case z_dict => k_is)
    (case z_min => k_is)
    (case z_sorted => k_is)
    (case z_enumerate => k_is)
    (case z_int => k_is)

