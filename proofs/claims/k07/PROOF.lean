import PyProof.Rows.All
import Wide.All
import OpenK.AllK
import Wide.FinOn
import Lean
import PyProof.EqAt
import PyProof.EqKinds
import PyProof.TupleCall
import PySem.Challenge.RW_cometorest_k07_kinds_by_name
import KE.KMinKey
import KE.KLam
import KE.KNestM
import KE.KDictList
import PyProof.EnumMake
import PyProof.EnumFor
import PyProof.EnumStmt
import PyProof.AttrMissHeap
import KE.KDictOf
import PyProof.StrLawsChain
import PyProof.StrLawsTight
import PyProof.Rows.StrItems
import PyProof.Rows.StrSplitCount
import PyProof.FString
import KE.KIntText
import KE.KTryMore
import PyProof.NsDelKeeps
import PyProof.ExcClass3
import PyProof.ExcBaseAll.ValueError
import PyProof.ExcAttrAll.ValueError
import PyProof.NeKinds
import PyProof.FactsAll.dict
set_option Elab.async false
set_option linter.all false
set_option maxRecDepth 100000
-- MOD Lay
/-! THE HAND LAYER, for ints, bools, texts, own classes, LISTS and tuples (index, slices, in, append, pop ..), calls, loops. Paste it whole ahead of your own text; what your proof does not reach may be deleted. -/
namespace L2
open PySem PySem.Spec PyProof.Rows
noncomputable abbrev Key := Sum Int Str
noncomputable def keyIs : Key → Value → Bool
  | .inl k, v => Value.isInt k v
  | .inr x, v => Value.isStrOf x v
noncomputable def keyH (w : World) : Key → Int
  | .inl k => hashInt k
  | .inr x => hashStr w x
theorem keyIs_shape : ∀ {k : Key} {v : Value}, keyIs k v = true → (∃ i t, k = Sum.inl i ∧ v = Value.int i t) ∨ (∃ x t, k = Sum.inr x ∧ v = Value.str x t)
  | .inl i, v, h => by
    obtain ⟨t, e⟩ := Value.isInt_shape (k := i) (v := v) h
    exact .inl ⟨i, t, rfl, e⟩
  | .inr x, v, h => by
    obtain ⟨t, e⟩ := Value.isStrOf_shape (x := x) (v := v) h
    exact .inr ⟨x, t, rfl, e⟩
theorem keyIs_int (i : Int) (t : Tok) : keyIs (.inl i) (.int i t) = true := by simp [keyIs, Value.isInt]
theorem keyIs_str (x : Str) (t : Tok) : keyIs (.inr x) (.str x t) = true := by simp [keyIs, Value.isStrOf]
theorem key_ll (a b : Int) : decide ((Sum.inl a : Key) = Sum.inl b) = (a == b) := by
  by_cases e : a = b
  · subst e; simp
  · have h : ¬ (Sum.inl a : Key) = Sum.inl b := fun q => e (Sum.inl.inj q)
    rw [decide_eq_false h]
    exact (beq_eq_false_iff_ne.mpr e).symm
theorem key_rr (a b : Str) : decide ((Sum.inr a : Key) = Sum.inr b) = decide (a = b) := by
  by_cases e : a = b
  · subst e; simp
  · have h : ¬ (Sum.inr a : Key) = Sum.inr b := fun q => e (Sum.inr.inj q)
    rw [decide_eq_false h, decide_eq_false e]
theorem key_lr (a : Int) (b : Str) : decide ((Sum.inl a : Key) = Sum.inr b) = false := decide_eq_false (fun q => nomatch q)
theorem key_rl (a : Str) (b : Int) : decide ((Sum.inr a : Key) = Sum.inl b) = false := decide_eq_false (fun q => nomatch q)

noncomputable def mixKind (prog : Program) (w : World) : PySem.KeyKind prog w Key where
  is := keyIs
  hash := keyH w
  inj := fun v a b ha hb => by
    rcases keyIs_shape ha with ⟨i, t, rfl, rfl⟩ | ⟨x, t, rfl, rfl⟩
    · rcases keyIs_shape hb with ⟨j, u, rfl, e⟩ | ⟨y, u, rfl, e⟩
      · injection e with e1 _; rw [e1]
      · exact nomatch e
    · rcases keyIs_shape hb with ⟨j, u, rfl, e⟩ | ⟨y, u, rfl, e⟩
      · exact nomatch e
      · injection e with e1 _; rw [e1]
  byValue := fun k v h => by
    rcases keyIs_shape h with ⟨i, t, rfl, rfl⟩ | ⟨x, t, rfl, rfl⟩ <;> rfl
  pyHash := fun hv h => by
    rcases keyIs_shape hv with ⟨i, t, rfl, rfl⟩ | ⟨x, t, rfl, rfl⟩
    · exact wpAny_pyHash_int h
    · exact wpAny_pyHash_str h
  eqBool := fun hu hv h => by
    rcases keyIs_shape hu with ⟨i, t, rfl, rfl⟩ | ⟨x, t, rfl, rfl⟩
    · rcases keyIs_shape hv with ⟨j, u, rfl, rfl⟩ | ⟨y, u, rfl, rfl⟩
      · rw [key_ll] at h; exact wpAny_eqBool_int h
      · rw [key_lr] at h; exact SeqAt.EqAt.int_str i t y u _ _ _ _ h
    · rcases keyIs_shape hv with ⟨j, u, rfl, rfl⟩ | ⟨y, u, rfl, rfl⟩
      · rw [key_rl] at h; exact SeqAt.EqAt.str_int x t j u _ _ _ _ h
      · rw [key_rr] at h; exact wpAny_eqBool_str h
  «strs» := fun k x t v h => by
    rcases keyIs_shape h with ⟨i, u, rfl, e⟩ | ⟨y, u, rfl, e⟩
    · exact nomatch e
    · injection e with e1 _
      subst e1
      cases v <;> rfl

theorem mixKind_int (prog : Program) (w : World) (i : Int) (t : Tok) : (mixKind prog w).is (.inl i) (.int i t) = true := keyIs_int i t
theorem mixKind_str (prog : Program) (w : World) (x : Str) (t : Tok) : (mixKind prog w).is (.inr x) (.str x t) = true := keyIs_str x t
end L2
namespace L2
open PySem PySem.Spec PyProof.Rows
inductive V where
  | non | bl (b : Bool) | int (i : Int) | str (x : Str) | byt (b : Array UInt8) | flt (b : UInt64) | ref (a : Addr) | ty (n : String)
  deriving DecidableEq

noncomputable def RelV : V → Value → Prop
  | .non, u => u = Value.none
  | .bl b, u => u = Value.bool b
  | .int i, u => ∃ t, u = Value.int i t
  | .str x, u => ∃ t, u = Value.str x t
  | .byt b, u => ∃ t, u = Value.bytes b t
  | .flt b, u => ∃ t, u = Value.float b t
  | .ref a, u => u = Value.ref a
  | .ty n, u => u = Value.type n

noncomputable abbrev Vals : List V → List Value → Prop := Paired RelV
theorem Vals.length {xs : List V} {us : List Value} (r : Vals xs us) : xs.length = us.length := Paired.length r
theorem Vals.get : ∀ {xs : List V} {us : List Value} {i : Nat} {x : V}, Vals xs us → xs[i]? = some x → ∃ u, us[i]? = some u ∧ RelV x u
  | _, _, _, _, .nil, e => by simp at e
  | _, _, 0, _, .cons r _, e => by simp at e; subst e; exact ⟨_, rfl, r⟩
  | _, _, i + 1, x, .cons _ t, e => by
    obtain ⟨u, h1, h2⟩ := Vals.get (i := i) (x := x) t (by simpa using e)
    exact ⟨u, by simpa using h1, h2⟩
theorem Vals.set {x : V} {u : Value} (r : RelV x u) : ∀ {xs : List V} {us : List Value} (i : Nat), Vals xs us → Vals (xs.set i x) (us.set i u)
  | _, _, _, .nil => .nil
  | _, _, 0, .cons _ t => .cons r t
  | _, _, i + 1, .cons q t => .cons q (Vals.set r i t)
theorem Vals.append : ∀ {xs ys : List V} {us ws : List Value}, Vals xs us → Vals ys ws → Vals (xs ++ ys) (us ++ ws)
  | _, _, _, _, .nil, s => s
  | _, _, _, _, .cons r t, s => .cons r (Vals.append t s)
theorem Vals.take : ∀ {xs : List V} {us : List Value} (n : Nat), Vals xs us → Vals (xs.take n) (us.take n)
  | _, _, 0, _ => .nil
  | _, _, _ + 1, .nil => .nil
  | _, _, n + 1, .cons r t => .cons r (Vals.take n t)
theorem Vals.drop : ∀ {xs : List V} {us : List Value} (n : Nat), Vals xs us → Vals (xs.drop n) (us.drop n)
  | _, _, 0, r => r
  | _, _, _ + 1, .nil => .nil
  | _, _, n + 1, .cons _ t => Vals.drop n t
noncomputable def RelO : Option V → Option Value → Prop
  | some v, some u => RelV v u
  | none, none => True
  | _, _ => False
noncomputable def KV {κ : Type} : List (κ × V) → List (κ × Value) → Prop := Paired fun (p : κ × V) (q : κ × Value) => p.1 = q.1 ∧ RelV p.2 q.2

noncomputable def kV : Key → V
  | .inl i => .int i
  | .inr x => .str x

inductive HO where
  /-- a list -/
  | lst (xs : List V)
  /-- a tuple (never changes) -/
  | tup (xs : List V)
  /-- a dict whose keys are ints and texts; one whose keys are tuples of ints and texts (the empty one is both) -/
  | dK (kvs : List (Key × V)) | dT (kvs : List (List Key × V))
  /-- a set of ints: its members, its size -/
  | set (S : Int → Bool) (n : Nat)
  /-- an instance of the class at C, its dict at dx, its attributes -/
  | ins (C dx : Addr) (fs : List (Str × V))
  /-- the dict of the instance at x -/
  | own (x : Addr)
  /-- the dict of an exception -/
  | xd (fs : List (Str × V))
  /-- a bound method, f of x -/
  | met (f x : Addr)
  /-- a range object lo, lo + 1, .. below hi -/
  | rng (lo hi : Int)
  /-- a thing that is known to the object (the script; a dict while a loop walks it): read, never written while it is so -/
  | frz (o : Obj) (u : HO)
  /-- a code object's table -/
  | tbl (ps : Array Value)
  /-- any other thing, by what is true of its one object (a def of one's own: SetO a S n := HO.ext fun h => ..) -/
  | ext (φ : Heap → Prop)

noncomputable abbrev Hp := Addr → Option HO
noncomputable def upd (H : Hp) (a : Addr) (o : HO) : Hp := fun b => if b = a then some o else H b
theorem upd_same {H : Hp} {a : Addr} {o : HO} : upd H a o a = some o := by unfold upd; rw [if_pos rfl]
theorem upd_ne {H : Hp} {a b : Addr} {o : HO} (h : b ≠ a) : upd H a o b = H b := by unfold upd; rw [if_neg h]
theorem ne_of {H : Hp} {a b : Addr} {o u : HO} (h : H a = some o) (h' : H b = some u) (d : o ≠ u) : a ≠ b := by
  intro e; subst e; rw [h] at h'; exact d (Option.some.inj h')
theorem ne_of_none {H : Hp} {a b : Addr} {o : HO} (h : H a = some o) (h' : H b = none) : a ≠ b := by
  intro e; subst e; rw [h] at h'; cases h'

section
variable (P : Program) (w : World)
noncomputable def ObjOk (H : Hp) (h : Heap) (a : Addr) : HO → Prop
  | .lst xs => xs.length ≤ sizeLine ∧ ∃ (its : List Value) (n : Nat), Vals xs its ∧ h.get? a = some { cls := .type "list", data := .seq its.toArray n }
  | .tup xs => xs.length ≤ sizeLine ∧ ∃ its : List Value, Vals xs its ∧ IsTup h a its.toArray
  | .dK kvs => kvs.length ≤ sizeLine ∧ (a == sysModules) = false ∧ ∃ vs, KV kvs vs ∧ h.DictOf (mixKind P w) a vs
  | .dT kvs => kvs.length ≤ sizeLine ∧ (a == sysModules) = false ∧ ∃ xs : List (List Key × Addr × Value),
      Paired (fun (p : List Key × V) (q : List Key × Addr × Value) => p.1 = q.1 ∧ H q.2.1 = some (.tup (p.1.map kV)) ∧ RelV p.2 q.2.2) kvs xs ∧
      ∃ o es ep, h.get? a = some o ∧ o.ExactDict ∧ o.data = .dict es ep ∧ es.toList = xs.map (entryOfKey (tupleKind (mixKind P w))) ∧ (xs.map (·.1)).Nodup
  | .set S n => h.SetOf (intKind P w) a S n
  | .ins C dx fs => H dx = some (.own a) ∧ fs.length ≤ 1000 ∧ dx ≠ a ∧ h.get? a = some (PySem.W.instObj C dx) ∧
      ∃ mA, h.Ns1 dx mA ∧ (∀ f, RelO (fs.lookup f) (mA f)) ∧ PySem.Within mA (fs.map (·.1))
  | .own _ => ∃ o, h.get? a = some o
  | .xd fs => ∃ mA, h.Ns1 a mA ∧ ∀ f, RelO (fs.lookup f) (mA f)
  | .rng lo hi => ∃ t u v, h.get? a = some { cls := .type "range", data := .fields #[.int lo t, .int hi u, .int 1 v] }
  | .frz o u => h.get? a = some o ∧ ObjOk H h a u
  | .tbl ps => h.get? a = some { cls := .none, data := .fields ps }
  | .met f x => h.get? a = some (PySem.W.methodObj (.ref f) (.ref x))
  | .ext φ => φ h ∧ (∃ o, h.get? a = some o) ∧ ∀ h1 h2 : Heap, φ h1 → (∀ o, h1.get? a = some o → h2.get? a = some o) → φ h2
noncomputable def HOk (H : Hp) (h : Heap) : Prop := ∀ a o, H a = some o → ObjOk P w H h a o
end
section
variable {P : Program} {w : World} {H H' : Hp} {h h' : Heap} {a : Addr} {o : HO}
theorem ObjOk.lt (x : ObjOk P w H h a o) : a < h.objs.size := by
  cases o with
  | lst xs => obtain ⟨_, _, _, _, e⟩ := x; exact Heap.lt_size e
  | tup xs => obtain ⟨_, _, _, p⟩ := x; exact p.lt
  | dK kvs => obtain ⟨_, _, _, _, o, _, _, e, _⟩ := x; exact Heap.lt_size e
  | dT kvs => obtain ⟨_, _, _, _, o, _, _, e, _⟩ := x; exact Heap.lt_size e
  | set S n => obtain ⟨o, _, _, _, e, _⟩ := x; exact Heap.lt_size e
  | ins C dx fs => obtain ⟨_, _, _, e, _⟩ := x; exact Heap.lt_size e
  | own y => obtain ⟨_, e⟩ := x; exact Heap.lt_size e
  | xd fs => obtain ⟨_, ⟨_, _, _, e, _⟩, _⟩ := x; exact Heap.lt_size e
  | rng lo hi => obtain ⟨_, _, _, e⟩ := x; exact Heap.lt_size e
  | frz ob u => obtain ⟨e, _⟩ := x; exact Heap.lt_size e
  | tbl ps => exact Heap.lt_size (show h.get? a = some _ from x)
  | met f y => exact Heap.lt_size (show h.get? a = some _ from x)
  | ext φ => obtain ⟨_, ⟨_, e⟩, _⟩ := x; exact Heap.lt_size e
theorem Paired.mapP {α β : Type} {F G : α → β → Prop} : ∀ {l₁ : List α} {l₂ : List β}, Paired F l₁ l₂ → (∀ a b, F a b → G a b) → Paired G l₁ l₂
  | _, _, .nil, _ => .nil
  | _, _, .cons r t, f => .cons (f _ _ r) (Paired.mapP t f)
theorem ObjOk.stay (x : ObjOk P w H h a o) (k : ∀ b u, (b = a ∨ H b = some (.own a)) → h.get? b = some u → h'.get? b = some u)
    (ho : ∀ b, H b = some (.own a) → H' b = some (.own a)) (ht : ∀ b xs, H b = some (.tup xs) → H' b = some (.tup xs)) : ObjOk P w H' h' a o := by
  induction o with
  | lst xs => obtain ⟨z, its, n, r, e⟩ := x; exact ⟨z, its, n, r, k _ _ (.inl rfl) e⟩
  | tup xs => obtain ⟨z, its, r, ob, e, c⟩ := x; exact ⟨z, its, r, ob, k _ _ (.inl rfl) e, c⟩
  | dK kvs => obtain ⟨z, y, vs, r, ob, es, ep, e, c⟩ := x; exact ⟨z, y, vs, r, ob, es, ep, k _ _ (.inl rfl) e, c⟩
  | dT kvs =>
    obtain ⟨z, y, xs, r, ob, es, ep, e, c⟩ := x
    exact ⟨z, y, xs, Paired.mapP r fun p q z => ⟨z.1, ht _ _ z.2.1, z.2.2⟩, ob, es, ep, k _ _ (.inl rfl) e, c⟩
  | set S n => obtain ⟨ob, es, ep, t, e, c⟩ := x; exact ⟨ob, es, ep, t, k _ _ (.inl rfl) e, c⟩
  | ins C dx fs =>
    obtain ⟨d, z, ne, e, mA, ⟨od, es, ep, e2, c⟩, r⟩ := x
    exact ⟨ho _ d, z, ne, k _ _ (.inl rfl) e, mA, ⟨od, es, ep, k _ _ (.inr d) e2, c⟩, r⟩
  | own y => obtain ⟨ob, e⟩ := x; exact ⟨ob, k _ _ (.inl rfl) e⟩
  | xd fs => obtain ⟨mA, ⟨od, es, ep, e, c⟩, r⟩ := x; exact ⟨mA, ⟨od, es, ep, k _ _ (.inl rfl) e, c⟩, r⟩
  | rng lo hi => obtain ⟨t, u, v, e⟩ := x; exact ⟨t, u, v, k _ _ (.inl rfl) e⟩
  | frz ob u ih => obtain ⟨e, q⟩ := x; exact ⟨k _ _ (.inl rfl) e, ih q⟩
  | tbl ps =>
    have e : h.get? a = some { cls := .none, data := .fields ps } := x
    show h'.get? a = some { cls := .none, data := .fields ps }
    exact k a _ (.inl rfl) e
  | met f y =>
    have e : h.get? a = some (PySem.W.methodObj (.ref f) (.ref y)) := x
    show h'.get? a = some (PySem.W.methodObj (.ref f) (.ref y))
    exact k a _ (.inl rfl) e
  | ext φ => obtain ⟨p, ⟨o, e⟩, st⟩ := x; exact ⟨st _ _ p fun o q => k _ _ (.inl rfl) q, ⟨o, k _ _ (.inl rfl) e⟩, st⟩
theorem HOk.lt (x : HOk P w H h) (e : H a = some o) : a < h.objs.size := (x a o e).lt
theorem HOk.fresh (x : HOk P w H h) (e : h.objs.size ≤ a) : H a = none := by
  cases q : H a with
  | none => rfl
  | some u => exact absurd (Nat.lt_of_lt_of_le (x.lt q) e) (Nat.lt_irrefl _)
theorem HOk.kept (x : HOk P w H h) (k : ∀ b u, h.get? b = some u → h'.get? b = some u) : HOk P w H h' := fun a o e =>
  (x a o e).stay (fun b u _ q => k b u q) (fun _ q => q) fun _ _ q => q
theorem HOk.laid (x : HOk P w H h) (k : ∀ b u, h.get? b = some u → h'.get? b = some u) (hp : h.objs.size ≤ a) (new : ObjOk P w (upd H a o) h' a o) : HOk P w (upd H a o) h' := fun b u e => by
  have hn := x.fresh hp
  by_cases hb : b = a
  · subst hb; rw [upd_same] at e; cases e; exact new
  · rw [upd_ne hb] at e
    exact (x b u e).stay (fun c v _ q => k c v q) (fun c q => by rw [upd_ne (ne_of_none q hn)]; exact q) fun c xs q => by rw [upd_ne (ne_of_none q hn)]; exact q
end
noncomputable def Rd (H : Hp) (a : Addr) (u : HO) : Prop := H a = some u ∨ ∃ o, H a = some (.frz o u)
theorem Rd.ok {P : Program} {w : World} {H : Hp} {h : Heap} {a : Addr} {u : HO} (r : Rd H a u) (x : HOk P w H h) : ObjOk P w H h a u := by
  rcases r with r | ⟨o, r⟩
  · exact x a u r
  · obtain ⟨_, q⟩ := x a _ r
    exact q
noncomputable def Mut : Option HO → Prop
  | some (.lst _) => True
  | some (.dK _) => True
  | some (.dT _) => True
  | some (.set _ _) => True
  | some (.ins _ _ _) => True
  | some (.ext _) => True
  | _ => False
section
variable {P : Program} {w : World} {H : Hp} {h h' : Heap} {x e : Addr} {o' : HO}
theorem HOk.write (ok : HOk P w H h) (mu : Mut (H x)) (he : e = x ∨ H e = some (.own x)) (k : ∀ b u, b ≠ e → h.get? b = some u → h'.get? b = some u) (heo : ∃ u, h'.get? e = some u)
    (new : ObjOk P w (upd H x o') h' x o') : HOk P w (upd H x o') h' := fun b u q => by
  have nown : ∀ c y, H c = some (.own y) → c ≠ x := fun c y r z => by subst z; rw [r] at mu; exact mu
  have ntup : ∀ c xs, H c = some (.tup xs) → c ≠ x := fun c xs r z => by subst z; rw [r] at mu; exact mu
  by_cases hb : b = x
  · subst hb; rw [upd_same] at q; cases q; exact new
  · rw [upd_ne hb] at q
    by_cases hbe : b = e
    · have q' : H b = some (.own x) := by
        rcases he with z | z
        · exact absurd (hbe.trans z) hb
        · rw [hbe]; exact z
      rw [q] at q'; cases q'
      obtain ⟨v, hv⟩ := heo
      exact ⟨v, by rw [hbe]; exact hv⟩
    · refine (ok b u q).stay (fun c v hc r => k c v ?_ r) (fun c r => by rw [upd_ne (nown c b r)]; exact r) fun c xs r => by rw [upd_ne (ntup c xs r)]; exact r
      rcases hc with rfl | hc
      · exact hbe
      · rintro rfl
        rcases he with z | z
        · exact nown c b hc z
        · rw [hc] at z; cases z; exact hb rfl
end
/-! ### kept unless tracked; of the frames at fs (the callers') the slots may change (an exception that passes writes there); of the records at ex (iterators) nothing is said -/
structure Un (fs ex : List Addr) (H H' : Hp) (h h' : Heap) : Prop where
  keep : ∀ b o, h.get? b = some o → H b = none → b ∉ fs → b ∉ ex → h'.get? b = some o
  slot : ∀ b o, h.get? b = some o → H b = none → b ∈ fs → b ∉ ex → ∃ sl, h'.get? b = some { o with slots := sl }
  free : ∀ b o, h.get? b = some o → H b = none → b ∉ ex → H' b = none
  there : ∀ b o, h.get? b = some o → b ∉ ex → ∃ o', h'.get? b = some o'
  tups : ∀ b xs, H b = some (.tup xs) → H' b = some (.tup xs)
  frzs : ∀ b o u, H b = some (.frz o u) → H' b = some (.frz o u)
  tbls : ∀ b ps, H b = some (.tbl ps) → ∃ more, H' b = some (.tbl (ps ++ more))
section
variable {fs fs' ex ex' : List Addr} {H H1 H2 : Hp} {h h1 h2 h' : Heap} {a x e : Addr} {o : HO}
theorem Un.any (u : Un fs ex H H1 h h1) {b : Addr} {ob : Obj} (q : h.get? b = some ob) (n : H b = none) (hx : b ∉ ex) : ∃ sl, h1.get? b = some { ob with slots := sl } := by
  by_cases hb : b ∈ fs
  · exact u.slot b ob q n hb hx
  · exact ⟨ob.slots, u.keep b ob q n hb hx⟩
theorem Un.trans (a : Un fs ex H H1 h h1) (b : Un fs ex H1 H2 h1 h2) : Un fs ex H H2 h h2 where
  keep := fun c ob q n hc hx => b.keep c ob (a.keep c ob q n hc hx) (a.free c ob q n hx) hc hx
  slot := fun c ob q n hc hx => by
    obtain ⟨sl, e1⟩ := a.slot c ob q n hc hx
    obtain ⟨sl', e2⟩ := b.slot c _ e1 (a.free c ob q n hx) hc hx
    exact ⟨sl', e2⟩
  free := fun c ob q n hx => by
    obtain ⟨o', e1⟩ := a.there c ob q hx
    exact b.free c o' e1 (a.free c ob q n hx) hx
  there := fun c ob q hx => by
    obtain ⟨o', e1⟩ := a.there c ob q hx
    exact b.there c o' e1 hx
  tups := fun c xs q => b.tups c xs (a.tups c xs q)
  frzs := fun c ob xs q => b.frzs c ob xs (a.frzs c ob xs q)
  tbls := fun c ps q => by
    obtain ⟨m1, e1⟩ := a.tbls c ps q
    obtain ⟨m2, e2⟩ := b.tbls c _ e1
    exact ⟨m1 ++ m2, by rw [e2, Array.append_assoc]⟩
theorem Un.kept (k : ∀ b u, h.get? b = some u → h'.get? b = some u) : Un fs ex H H h h' :=
  ⟨fun b ob q _ _ _ => k b ob q, fun b ob q _ _ _ => ⟨ob.slots, k b ob q⟩, fun _ _ _ n _ => n, fun b ob q _ => ⟨ob, k b ob q⟩, fun _ _ q => q, fun _ _ _ q => q, fun _ ps q => ⟨#[], by rw [q]; simp⟩⟩
theorem Un.refl : Un fs ex H H h h := Un.kept fun _ _ q => q
theorem Un.laid (k : ∀ b u, h.get? b = some u → h'.get? b = some u) (hp : h.objs.size ≤ a) (hn : H a = none) : Un fs ex H (upd H a o) h h' where
  keep := fun b u q _ _ _ => k b u q
  slot := fun b u q _ _ _ => ⟨u.slots, k b u q⟩
  free := fun b u q n _ => by rw [upd_ne (Nat.ne_of_lt (Nat.lt_of_lt_of_le (Heap.lt_size q) hp))]; exact n
  there := fun b u q _ => ⟨u, k b u q⟩
  tups := fun b xs q => by rw [upd_ne (ne_of_none q hn)]; exact q
  frzs := fun b u xs q => by rw [upd_ne (ne_of_none q hn)]; exact q
  tbls := fun b ps q => ⟨#[], by rw [upd_ne (ne_of_none q hn), q]; simp⟩
theorem Un.write (mu : Mut (H x)) (he : e = x ∨ H e = some (.own x)) (k : ∀ b u, b ≠ e → h.get? b = some u → h'.get? b = some u) (heo : ∃ u, h'.get? e = some u) : Un fs ex H (upd H x o) h h' := by
  have hx : ∀ b, H b = none → b ≠ x := fun b n z => by subst z; rw [n] at mu; exact mu
  have hb : ∀ b, H b = none → b ≠ e := fun b n z => by
    subst z
    rcases he with r | r
    · exact hx b n r
    · rw [n] at r; cases r
  have hm : ∀ b u, H b = some u → ¬ Mut (some u) → b ≠ x := fun b u q nm z => by subst z; rw [q] at mu; exact nm mu
  refine ⟨fun b u q n _ _ => k b u (hb b n) q, fun b u q n _ _ => ⟨u.slots, k b u (hb b n) q⟩, fun b u q n _ => by rw [upd_ne (hx b n)]; exact n, fun b u q _ => ?_,
    fun b xs q => by rw [upd_ne (hm b _ q fun z => z)]; exact q, fun b u xs q => by rw [upd_ne (hm b _ q fun z => z)]; exact q, fun b ps q => ⟨#[], by rw [upd_ne (hm b _ q fun z => z), q]; simp⟩⟩
  by_cases hbe : b = e
  · subst hbe; exact heo
  · exact ⟨u, k b u hbe q⟩
end
/-! ### the heap without what is tracked -/
noncomputable def trk (h : Heap) (H : Hp) : List Addr := (List.range h.objs.size).filter fun a => (H a).isSome
noncomputable def hidT (h : Heap) (H : Hp) : Heap := PySem.W.hideAll h (trk h H)
theorem hidT_size (h : Heap) (H : Hp) : (hidT h H).objs.size = h.objs.size := PySem.W.hideAll_size _ _
theorem hidT_get {h : Heap} {H : Hp} {b : Addr} {o : Obj} (e : h.get? b = some o) (n : H b = none) : (hidT h H).get? b = some o :=
  PySem.W.hideAll_get _ e fun hm => by
    have q : (H b).isSome = true := (List.mem_filter.mp hm).2
    rw [n] at q; simp at q
theorem of_hidT {h : Heap} {H : Hp} {b : Addr} {o : Obj} (e : (hidT h H).get? b = some o) : h.get? b = some o ∧ H b = none := by
  have e' : h.get? b = some o := PySem.W.of_hideAll (trk h H) e
  refine ⟨e', ?_⟩
  cases q : H b with
  | none => rfl
  | some x =>
    have hm : b ∈ trk h H := List.mem_filter.mpr ⟨List.mem_range.mpr (Heap.lt_size e'), by simp [q]⟩
    have z : (hidT h H).get? b = none := PySem.W.hideAll_none (trk h H) hm
    rw [z] at e; cases e

/-! ### OpenK's ledger, filled with every new object but one -/
noncomputable def allNews (g h : Heap) (L : Addr) : List (Addr × Obj) := (List.range h.objs.size).filterMap fun a => if a = L ∨ (g.get? a).isSome = true then none else (h.get? a).map fun o => (a, o)
noncomputable def rest (g h : Heap) (L d : Addr) : List (Addr × Obj) := (allNews g h L).filter fun p => decide (p.1 ≠ d)
end L2
namespace L2
open PySem PySem.Spec PyProof.Rows
structure Mod (K : PySem.W.Frag) (mg : Str → Option Value) (base : Heap) : Prop where
  kin : K.In base
  glob : base.Ns mainGlobals mg
  blt : ∃ mb, base.Ns builtinsNs mb ∧ ∀ x : Str, x ≠ "__name__" → mb x = bootBuiltins x
  nolimit : base.NoLimit

structure Cx where
  prog : Program
  w : World
  K : PySem.W.Frag
  mg : Str → Option Value
  base : Heap
  A : Around
  N : List Str
  s₀ : Shared
  H₀ : Hp
  env : Env
  outer : List Env
  stack : List Env
  ex : List Addr
  fn : Str → Bool
  calm : Bool
  pn : List (Addr × Obj)
  xe : Value → Shared → Prop
noncomputable def frs (l : List Env) : List Addr := l.filterMap (·.frame)
noncomputable abbrev Cx.fs (X : Cx) : List Addr := frs X.outer

noncomputable def Vis (sc : Scope) (x : Str) : Prop := sc.names.lookup x = some .local ∨ sc.names.lookup x = some .cell ∨ sc.names.lookup x = some .free
noncomputable def Loc (sc : Scope) (x : Str) : Prop := sc.names.lookup x = some .local ∨ sc.names.lookup x = some .cell
noncomputable def Look (env : Env) (h : Heap) (m : Str → Option Value) (x : Str) (u : Value) : Prop :=
  (env.kindOf x = some .local ∧ m x = some u) ∨ ((env.kindOf x = some .cell ∨ env.kindOf x = some .free) ∧ ∃ c, env.cells.lookup x = some c ∧ h.IsCell c (some u))

structure Cx.Ok (X : Cx) : Prop where
  mod : Mod X.K X.mg X.base
  kind : X.env.scope.kind = .function
  glob : X.env.globals = mainGlobals
  blt : X.env.builtins = builtinsNs
  above : X.s₀.heap.objs.size ≤ X.env.locals
  inj : ∀ x y c, X.env.cells.lookup x = some c → X.env.cells.lookup y = some c → x = y
  has : ∀ x, (X.env.kindOf x = some .cell ∨ X.env.kindOf x = some .free) → ∃ c, X.env.cells.lookup x = some c
  cab : ∀ x c, X.fn x = true → X.env.cells.lookup x = some c → X.s₀.heap.objs.size ≤ c
  hd : X.calm = true → X.A.handled = none
  frames : X.A.frames = some X.stack
  stk : X.stack = X.outer ∨ (X.stack = X.env :: X.outer ∧ X.env.frame = some X.env.locals)
  exf : ∀ b ∈ X.ex, b ≠ X.env.locals ∧ ∀ x c, X.env.cells.lookup x = some c → c ≠ b
  bs : ∀ b o, X.base.get? b = some o → X.s₀.heap.get? b = some o ∧ X.H₀ b = none
  bsz : X.base.objs.size ≤ X.s₀.heap.objs.size
  noex : ∀ b o, X.base.get? b = some o → b ∉ X.ex
  exfs : ∀ b ∈ X.ex, b ∉ X.fs
  funs : X.s₀.heap.FunFrames X.base X.outer
  frf : ∀ b ∈ X.fs, X.H₀ b = none

structure Inv (X : Cx) (pins : List (Addr × Obj)) (σ : List (Option V)) (H : Hp) (s : Shared) : Prop where
  ok : X.Ok
  os : s.os = X.s₀.os
  bare : AllBare s.gens
  base : Un X.fs X.ex X.H₀ H X.s₀.heap s.heap
  loc : ∃ m, s.heap.Ns X.env.locals m ∧ ∀ (i : Nat) (x : Str) (v : V), X.N[i]? = some x → σ[i]? = some (some v) → Vis X.env.scope x → ∃ u, RelV v u ∧ Look X.env s.heap m x u
  cell : ∀ x c, X.env.cells.lookup x = some c → ∃ v, s.heap.IsCell c v
  free : H X.env.locals = none
  freeC : ∀ x c, X.env.cells.lookup x = some c → H c = none
  pin : ∀ p ∈ X.pn ++ pins, s.heap.get? p.1 = some p.2 ∧ H p.1 = none ∧ p.1 ≠ X.env.locals ∧ p.1 ∉ X.fs ∧ ∀ v, p.2.data ≠ .cell v
  hok : HOk X.prog X.w H s.heap
  len : σ.length = X.N.length

section
variable {X : Cx} {pins : List (Addr × Obj)} {σ : List (Option V)} {H H' : Hp} {s : Shared} {h' : Heap}
theorem Cx.Ok.nofr (ok : X.Ok) {b : Addr} {o : Obj} (e : X.base.get? b = some o) : b ∉ X.fs := fun hb => by
  have := (ok.funs.mem hb).1
  rw [e] at this; cases this
theorem Inv.bs (I : Inv X pins σ H s) : ∀ b o, X.base.get? b = some o → s.heap.get? b = some o ∧ H b = none := fun b o e =>
  ⟨I.base.keep b o (I.ok.bs b o e).1 (I.ok.bs b o e).2 (I.ok.nofr e) (I.ok.noex b o e), I.base.free b o (I.ok.bs b o e).1 (I.ok.bs b o e).2 (I.ok.noex b o e)⟩
theorem Inv.bk (I : Inv X pins σ H s) : ∀ b o, X.base.get? b = some o → s.heap.get? b = some o := fun b o e => (I.bs b o e).1
theorem Inv.mod (I : Inv X pins σ H s) : Mod X.K X.mg X.base := I.ok.mod
theorem Inv.kIn (I : Inv X pins σ H s) : X.K.In s.heap := I.ok.mod.kin.keeps I.bk
theorem Inv.nolimit (I : Inv X pins σ H s) : s.heap.NoLimit := I.ok.mod.nolimit.keeps I.bk
theorem Inv.lt (I : Inv X pins σ H s) : X.env.locals < s.heap.objs.size := let ⟨_, hn, _⟩ := I.loc; hn.lt
theorem Inv.sz (I : Inv X pins σ H s) : X.s₀.heap.objs.size ≤ s.heap.objs.size := Nat.le_trans I.ok.above (Nat.le_of_lt I.lt)
theorem Inv.nofs (I : Inv X pins σ H s) {a : Addr} (h : s.heap.objs.size ≤ a) : a ∉ X.fs := fun hb => by
  obtain ⟨_, o, ho, _⟩ := I.ok.funs.mem hb
  exact absurd (Nat.lt_of_lt_of_le (Heap.lt_size ho) (Nat.le_trans I.sz h)) (Nat.lt_irrefl _)
theorem Inv.cne (I : Inv X pins σ H s) : ∀ x c, X.env.cells.lookup x = some c → c ≠ X.env.locals := fun x c e z => by
  obtain ⟨v, o, ho, hd⟩ := I.cell x c e
  obtain ⟨m, ⟨o', es, ep, ho', hd', _⟩, _⟩ := I.loc
  rw [z, ho'] at ho; cases ho; rw [hd'] at hd; cases hd
theorem Inv.funs (I : Inv X pins σ H s) : s.heap.FunFrames X.base X.outer := by
  have all : ∀ (l : List Env), (∀ b ∈ frs l, b ∈ X.fs) → X.s₀.heap.FunFrames X.base l → s.heap.FunFrames X.base l := by
    intro l
    induction l with
    | nil => intro _ _; trivial
    | cons env r ih =>
      intro hs hl
      obtain ⟨hk, ⟨L, o, hf, hn, ho, hd⟩, hr⟩ := hl
      have hL : L ∈ X.fs := hs L (by unfold frs; rw [List.filterMap_cons, hf]; exact List.mem_cons_self)
      obtain ⟨sl, e⟩ := I.base.slot L o ho (I.ok.frf L hL) hL fun z => I.ok.exfs L z hL
      exact ⟨hk, ⟨L, _, hf, hn, e, hd⟩, ih (fun b hb => hs b (by unfold frs; rw [List.filterMap_cons, hf]; exact List.mem_cons_of_mem _ hb)) hr⟩
  exact all X.outer (fun _ hb => hb) I.ok.funs

theorem Inv.stack (I : Inv X pins σ H s) : s.heap.FunFrames X.base X.stack := by
  rcases I.ok.stk with e | ⟨e, hf⟩
  · rw [e]; exact I.funs
  · rw [e]
    obtain ⟨m, hn, _⟩ := I.loc
    refine .cons (by rw [I.ok.kind]; decide) hf hn ?_ I.funs
    exact Heap.get?_none_of_le (Nat.le_trans I.ok.bsz I.ok.above)
theorem Inv.stkSub (I : Inv X pins σ H s) : ∀ b ∈ frs X.stack, b ∈ X.env.locals :: X.fs := fun b hb => by
  rcases I.ok.stk with e | ⟨e, hf⟩
  · rw [e] at hb; exact List.mem_cons_of_mem _ hb
  · rw [e] at hb
    unfold frs at hb
    rw [List.filterMap_cons, hf] at hb
    exact hb
theorem Inv.stkFree (I : Inv X pins σ H s) : ∀ b ∈ frs X.stack, H b = none := fun b hb => by
  rcases List.mem_cons.mp (I.stkSub b hb) with e | hb
  · rw [e]; exact I.free
  · obtain ⟨_, o, ho, _⟩ := I.ok.funs.mem hb
    exact I.base.free b o ho (I.ok.frf b hb) fun z => I.ok.exfs b z hb

theorem Inv.step {g' : Array GenState} {t' : Nat} {d' : Drawn} {ch : List Addr} (I : Inv X pins σ H s)
    (hch : ∀ b ∈ ch, (b ∈ X.ex ∨ X.s₀.heap.get? b = none) ∧ b ≠ X.env.locals ∧ (∀ x c, X.env.cells.lookup x = some c → c ≠ b) ∧ ∀ p ∈ X.pn ++ pins, p.1 ≠ b)
    (keep : ∀ b o, b ≠ X.env.locals → b ∉ X.fs → b ∉ ch → s.heap.get? b = some o → H b = none → h'.get? b = some o)
    (slot : ∀ b o, b ≠ X.env.locals → b ∈ X.fs → b ∉ ch → s.heap.get? b = some o → H b = none → ∃ sl, h'.get? b = some { o with slots := sl }) (free : ∀ b o, b ∉ ch → s.heap.get? b = some o → H b = none → H' b = none)
    (there : ∀ b o, b ∉ ch → s.heap.get? b = some o → ∃ o', h'.get? b = some o')
    (tups : ∀ b xs, H b = some (.tup xs) → H' b = some (.tup xs)) (frzs : ∀ b o u, H b = some (.frz o u) → H' b = some (.frz o u)) (tbls : ∀ b ps, H b = some (.tbl ps) → ∃ more, H' b = some (.tbl (ps ++ more)))
    (ns : ∀ m, s.heap.Ns X.env.locals m → h'.Ns X.env.locals m) (hok : HOk X.prog X.w H' h') (hg : AllBare g') :
    Inv X pins σ H' { s with heap := h', gens := g', drawn := d', toks := t' } := by
  have neL : ∀ b o, X.s₀.heap.get? b = some o → b ≠ X.env.locals := fun b o e => Nat.ne_of_lt (Nat.lt_of_lt_of_le (Heap.lt_size e) I.ok.above)
  have neC : ∀ b o, X.s₀.heap.get? b = some o → b ∉ X.ex → b ∉ ch := fun b o e hx hb => by
    rcases (hch b hb).1 with z | z
    · exact hx z
    · rw [z] at e; cases e
  have cellK : ∀ x c, X.env.cells.lookup x = some c → ∀ v, s.heap.IsCell c v → h'.IsCell c v := fun x c e v ⟨o, ho, hd⟩ => by
    have nch : c ∉ ch := fun z => (hch c z).2.2.1 x c e rfl
    by_cases hc : c ∈ X.fs
    · obtain ⟨sl, q⟩ := slot c o (I.cne x c e) hc nch ho (I.freeC x c e)
      exact ⟨_, q, hd⟩
    · exact ⟨o, keep c o (I.cne x c e) hc nch ho (I.freeC x c e), hd⟩
  refine ⟨I.ok, I.os, hg, ⟨fun b o e n hb hx => ?_, fun b o e n hb hx => ?_, fun b o e n hx => ?_, fun b o e hx => ?_, fun b xs e => tups b xs (I.base.tups b xs e), fun b o xs e => frzs b o xs (I.base.frzs b o xs e), fun b ps e => ?_⟩, ?_, fun x c e => ?_, ?_, fun x c e => ?_, fun p hp => ?_, hok, I.len⟩
  · exact keep b o (neL b o e) hb (neC b o e hx) (I.base.keep b o e n hb hx) (I.base.free b o e n hx)
  · obtain ⟨sl, e1⟩ := I.base.slot b o e n hb hx
    obtain ⟨sl', e2⟩ := slot b _ (neL b o e) hb (neC b o e hx) e1 (I.base.free b o e n hx)
    exact ⟨sl', e2⟩
  · obtain ⟨o', e1⟩ := I.base.there b o e hx
    exact free b o' (neC b o e hx) e1 (I.base.free b o e n hx)
  · obtain ⟨o', e1⟩ := I.base.there b o e hx
    exact there b o' (neC b o e hx) e1
  · obtain ⟨m1, e1⟩ := I.base.tbls b ps e
    obtain ⟨m2, e2⟩ := tbls b _ e1
    exact ⟨m1 ++ m2, by rw [e2, Array.append_assoc]⟩
  · obtain ⟨m, hn, hl⟩ := I.loc
    refine ⟨m, ns m hn, fun i x v e1 e2 e3 => ?_⟩
    obtain ⟨u, r, l⟩ := hl i x v e1 e2 e3
    refine ⟨u, r, ?_⟩
    rcases l with l | ⟨k, c, e, z⟩
    · exact .inl l
    · exact .inr ⟨k, c, e, cellK x c e _ z⟩
  · obtain ⟨v, z⟩ := I.cell x c e
    exact ⟨v, cellK x c e v z⟩
  · obtain ⟨m, ⟨o, _, _, ho, _⟩, _⟩ := I.loc
    exact free _ o (fun z => (hch _ z).2.1 rfl) ho I.free
  · obtain ⟨v, o, ho, hd⟩ := I.cell x c e
    exact free c o (fun z => (hch c z).2.2.1 x c e rfl) ho (I.freeC x c e)
  · obtain ⟨e, n, ne, nf, d⟩ := I.pin p hp
    have nch : p.1 ∉ ch := fun z => (hch p.1 z).2.2.2 p hp rfl
    exact ⟨keep p.1 p.2 ne nf nch e n, free p.1 p.2 nch e n, ne, nf, d⟩
theorem Inv.un {t' : Nat} (I : Inv X pins σ H s) (u : Un X.fs [] H H' s.heap h') (hok : HOk X.prog X.w H' h') : Inv X pins σ H' { s with heap := h', toks := t' } := by
  obtain ⟨m, ⟨o, es, ep, ho, r⟩, _⟩ := id I.loc
  obtain ⟨sl, hL⟩ := u.any ho I.free (by simp)
  exact I.step (g' := s.gens) (d' := s.drawn) (ch := []) (fun _ z => nomatch z) (fun b o _ hb _ e n => u.keep b o e n hb (by simp)) (fun b o _ hb _ e n => u.slot b o e n hb (by simp)) (fun b o _ e n => u.free b o e n (by simp)) (fun b o _ e => u.there b o e (by simp)) u.tups u.frzs u.tbls (fun m' hm => by
    obtain ⟨o', es', ep', ho', r'⟩ := hm
    rw [ho] at ho'; cases ho'
    exact ⟨_, es', ep', hL, r'⟩) hok I.bare
theorem Inv.call {g' : Array GenState} {t' : Nat} {d' : Drawn} {ch : List Addr} (I : Inv X pins σ H s) (u : Un (frs X.stack) ch H H' s.heap h') (hok : HOk X.prog X.w H' h') (hg : AllBare g')
    (hch : ∀ b ∈ ch, (b ∈ X.ex ∨ X.s₀.heap.objs.size ≤ b) ∧ b ≠ X.env.locals ∧ (∀ x c, X.env.cells.lookup x = some c → c ≠ b) ∧ ∀ p ∈ X.pn ++ pins, p.1 ≠ b) :
    Inv X pins σ H' { s with heap := h', gens := g', drawn := d', toks := t' } := by
  obtain ⟨m, ⟨o, es, ep, ho, r⟩, _⟩ := id I.loc
  obtain ⟨sl, hL⟩ := u.any ho I.free fun z => (hch _ z).2.1 rfl
  exact I.step (ch := ch) (fun b hb => ⟨(hch b hb).1.imp_right fun z => Heap.get?_none_of_le z, (hch b hb).2⟩) (fun b o hL hb hc e n => u.keep b o e n (fun z => (List.mem_cons.mp (I.stkSub b z)).elim hL hb) hc) (fun b o _ _ hc e n => u.any e n hc) (fun b o hc e n => u.free b o e n hc) (fun b o hc e => u.there b o e hc) u.tups u.frzs u.tbls (fun m' hm => by
    obtain ⟨o', es', ep', ho', r'⟩ := hm
    rw [ho] at ho'; cases ho'
    exact ⟨_, es', ep', hL, r'⟩) hok hg
theorem Inv.turned {t' : Nat} {it : Addr} (I : Inv X pins σ H s) (k : ∀ b o, b ≠ it → s.heap.get? b = some o → h'.get? b = some o) (hn : H it = none) (hL : it ≠ X.env.locals)
    (h1 : it ∈ X.ex ∨ X.s₀.heap.objs.size ≤ it) (h2 : ∀ x c, X.env.cells.lookup x = some c → c ≠ it) (h3 : ∀ p ∈ X.pn ++ pins, p.1 ≠ it) : Inv X pins σ H { s with heap := h', toks := t' } := by
  have nit : ∀ b u, H b = some u → b ≠ it := fun b u e z => by rw [z, hn] at e; cases e
  refine I.step (g' := s.gens) (d' := s.drawn) (ch := [it]) (fun b hb => ?_) (fun b o _ _ hc e _ => k b o (fun z => hc (by simp [z])) e) (fun b o _ _ hc e _ => ⟨o.slots, k b o (fun z => hc (by simp [z])) e⟩) (fun _ _ _ _ n => n)
    (fun b o hc e => ⟨o, k b o (fun z => hc (by simp [z])) e⟩) (fun _ _ e => e) (fun _ _ _ e => e) (fun b ps e => ⟨#[], by rw [e]; simp⟩) (fun m hm => ?_) (fun b u e => ?_) I.bare
  · have e : b = it := by simpa using hb
    subst e
    exact ⟨h1.imp_right fun z => Heap.get?_none_of_le z, hL, h2, h3⟩
  · obtain ⟨o, es, ep, ho, r⟩ := hm
    exact ⟨o, es, ep, k _ o (Ne.symm hL) ho, r⟩
  · refine (I.hok b u e).stay (fun c v hc q => k c v ?_ q) (fun _ q => q) fun _ _ q => q
    rcases hc with z | z
    · rw [z]; exact nit b u e
    · exact nit c _ z
theorem Inv.tok (I : Inv X pins σ H s) (t : Nat) : Inv X pins σ H { s with toks := t } := I.un (h' := s.heap) (t' := t) Un.refl I.hok
theorem Inv.kept {t' : Nat} (I : Inv X pins σ H s) (k : ∀ b u, s.heap.get? b = some u → h'.get? b = some u) : Inv X pins σ H { s with heap := h', toks := t' } := I.un (Un.kept k) (I.hok.kept k)
theorem Inv.laid {a : Addr} {o : HO} {t' : Nat} (I : Inv X pins σ H s) (k : ∀ b u, s.heap.get? b = some u → h'.get? b = some u) (hp : s.heap.objs.size ≤ a) (new : ObjOk X.prog X.w (upd H a o) h' a o) :
    Inv X pins σ (upd H a o) { s with heap := h', toks := t' } := I.un (Un.laid k hp (I.hok.fresh hp)) (I.hok.laid k hp new)
theorem Inv.write {x e : Addr} {o : HO} {t' : Nat} (I : Inv X pins σ H s) (mu : Mut (H x)) (he : e = x ∨ H e = some (.own x)) (k : ∀ b u, b ≠ e → s.heap.get? b = some u → h'.get? b = some u) (heo : ∃ u, h'.get? e = some u)
    (new : ObjOk X.prog X.w (upd H x o) h' x o) : Inv X pins σ (upd H x o) { s with heap := h', toks := t' } := I.un (Un.write mu he k heo) (I.hok.write mu he k heo new)
theorem Inv.pins_of {pins' : List (Addr × Obj)} (I : Inv X pins σ H s) (h : ∀ p ∈ pins', s.heap.get? p.1 = some p.2 ∧ H p.1 = none ∧ p.1 ≠ X.env.locals ∧ p.1 ∉ X.fs ∧ ∀ v, p.2.data ≠ .cell v) : Inv X pins' σ H s :=
  ⟨I.ok, I.os, I.bare, I.base, I.loc, I.cell, I.free, I.freeC, fun p hp => (List.mem_append.mp hp).elim (fun z => I.pin p (List.mem_append_left _ z)) (h p), I.hok, I.len⟩

theorem nodup_ix {N : List Str} (hN : N.Nodup) {i j : Nat} {x : Str} (a : N[i]? = some x) (b : N[j]? = some x) : i = j := by
  obtain ⟨h1, e1⟩ := List.getElem?_eq_some_iff.mp a
  obtain ⟨h2, e2⟩ := List.getElem?_eq_some_iff.mp b
  exact (List.getElem_inj hN).mp (e1.trans e2.symm)

theorem store_ok2 {M : Model} {A : Around} {E : Value → Shared → Prop} {i : Nat} {x : Str} {v : V} {u : Value} {Q : Unit → Shared → Prop} (I : Inv X pins σ H s) (hN : X.N.Nodup) (hi : X.N[i]? = some x) (hx : Loc X.env.scope x) (r : RelV v u)
    (h : ∀ s', Inv X pins (σ.set i (some v)) H s' → (∃ a, Heap.SameBut a s.heap s'.heap ∧ (a = X.env.locals ∨ X.env.cells.lookup x = some a)) → Q () s') (hf : X.fn x = true ∨ X.env.scope.names.lookup x = some .local := by first | exact .inl rfl | exact .inr rfl | assumption) : wpAny M A (storeName X.env x u) Q E s := by
  obtain ⟨m, hn, hl⟩ := id I.loc
  have hcls : (X.env.scope.kind == .class || (X.env.scope.kind == .module && X.env.locals != X.env.globals)) = false := by rw [I.ok.kind]; rfl
  have hiσ : i < σ.length := by rw [I.len]; exact (List.getElem?_eq_some_iff.mp hi).1
  have cne := I.cne
  have tracked : ∀ {a : Addr} {h' : Heap}, (∃ o, s.heap.get? a = some o ∧ H a = none) → Heap.SameBut a s.heap h' → HOk X.prog X.w H h' := fun {a h'} ha hs b ob e => by
    obtain ⟨_, _, hfree⟩ := ha
    refine (I.hok b ob e).stay (fun c w' hc q => (hs.2 c ?_).trans q) (fun _ q => q) fun _ _ q => q
    rintro rfl
    rcases hc with rfl | hc
    · rw [hfree] at e; cases e
    · rw [hfree] at hc; cases hc
  rcases hx with hk | hk
  · refine wpAny_storeName_local hk hn (fun h' hn' hs => ?_) hcls
    obtain ⟨oL, _, _, hoL, _⟩ := id hn
    refine h _ ⟨I.ok, I.os, I.bare, ⟨fun b o e n hb hx => ?_, fun b o e n hb hx => ?_, I.base.free, fun b o e hx => ?_, I.base.tups, I.base.frzs, I.base.tbls⟩, ⟨_, hn', fun j y v' e1 e2 e3 => ?_⟩, fun y c e => ?_, I.free, I.freeC, fun p hp => ?_, tracked ⟨oL, hoL, I.free⟩ hs, by simpa using I.len⟩ ⟨_, hs, .inl rfl⟩
    · exact (hs.2 b (Nat.ne_of_lt (Nat.lt_of_lt_of_le (Heap.lt_size e) I.ok.above))).trans (I.base.keep b o e n hb hx)
    · obtain ⟨sl, e1⟩ := I.base.slot b o e n hb hx
      exact ⟨sl, (hs.2 b (Nat.ne_of_lt (Nat.lt_of_lt_of_le (Heap.lt_size e) I.ok.above))).trans e1⟩
    · obtain ⟨o', e1⟩ := I.base.there b o e hx
      exact ⟨o', (hs.2 b (Nat.ne_of_lt (Nat.lt_of_lt_of_le (Heap.lt_size e) I.ok.above))).trans e1⟩
    · by_cases hj : j = i
      · subst hj
        rw [hi] at e1; cases e1
        rw [List.getElem?_set_self hiσ] at e2
        cases e2
        exact ⟨u, r, .inl ⟨hk, by simp⟩⟩
      · rw [List.getElem?_set_ne (Ne.symm hj)] at e2
        obtain ⟨u', r', q⟩ := hl j y v' e1 e2 e3
        refine ⟨u', r', ?_⟩
        rcases q with ⟨k, e⟩ | ⟨k, c, e, z⟩
        · refine .inl ⟨k, ?_⟩
          have : y ≠ x := fun e => hj (nodup_ix hN e1 (e ▸ hi))
          simp [this, e]
        · exact .inr ⟨k, c, e, z.sameBut hs (cne y c e)⟩
    · obtain ⟨w', z⟩ := I.cell y c e
      exact ⟨w', z.sameBut hs (cne y c e)⟩
    · obtain ⟨e, n, ne, nf, d⟩ := I.pin p hp
      exact ⟨(hs.2 p.1 ne).trans e, n, ne, nf, d⟩
  · have hfn : X.fn x = true := by
      rcases hf with z | z
      · exact z
      · rw [z] at hk; cases hk
    obtain ⟨c, hc⟩ := I.ok.has x (.inl hk)
    obtain ⟨w', z⟩ := I.cell x c hc
    refine wpAny_storeName_cell I.ok.kind hk hc z (fun h' hc' hs => ?_)
    obtain ⟨oc, hoc, hocd⟩ := id z
    refine h { s with heap := h' } ⟨I.ok, I.os, I.bare, ⟨fun b o e n hb hx => ?_, fun b o e n hb hx => ?_, I.base.free, fun b o e hx => ?_, I.base.tups, I.base.frzs, I.base.tbls⟩, ⟨m, hn.sameBut hs (Ne.symm (cne x c hc)), fun j y v' e1 e2 e3 => ?_⟩, fun y c' e => ?_, I.free, I.freeC, fun p hp => ?_, tracked ⟨oc, hoc, I.freeC x c hc⟩ hs, by simpa using I.len⟩ ⟨c, hs, .inr hc⟩
    · exact (hs.2 b (Nat.ne_of_lt (Nat.lt_of_lt_of_le (Heap.lt_size e) (I.ok.cab x c hfn hc)))).trans (I.base.keep b o e n hb hx)
    · obtain ⟨sl, e1⟩ := I.base.slot b o e n hb hx
      exact ⟨sl, (hs.2 b (Nat.ne_of_lt (Nat.lt_of_lt_of_le (Heap.lt_size e) (I.ok.cab x c hfn hc)))).trans e1⟩
    · obtain ⟨o', e1⟩ := I.base.there b o e hx
      exact ⟨o', (hs.2 b (Nat.ne_of_lt (Nat.lt_of_lt_of_le (Heap.lt_size e) (I.ok.cab x c hfn hc)))).trans e1⟩
    · by_cases hj : j = i
      · subst hj
        rw [hi] at e1; cases e1
        rw [List.getElem?_set_self hiσ] at e2
        cases e2
        exact ⟨u, r, .inr ⟨.inl hk, c, hc, hc'⟩⟩
      · rw [List.getElem?_set_ne (Ne.symm hj)] at e2
        obtain ⟨u', r', q⟩ := hl j y v' e1 e2 e3
        refine ⟨u', r', ?_⟩
        rcases q with q | ⟨k, c', e, z'⟩
        · exact .inl q
        · refine .inr ⟨k, c', e, z'.sameBut hs ?_⟩
          rintro rfl
          exact hj (nodup_ix hN e1 (I.ok.inj _ _ _ e hc ▸ hi))
    · by_cases hcc : c' = c
      · subst hcc; exact ⟨_, hc'⟩
      · obtain ⟨w2, z2⟩ := I.cell y c' e
        exact ⟨w2, z2.sameBut hs hcc⟩
    · obtain ⟨e, n, ne, nf, d⟩ := I.pin p hp
      refine ⟨(hs.2 p.1 ?_).trans e, n, ne, nf, d⟩
      intro q
      rw [q, hoc] at e
      have q' : oc = p.2 := Option.some.inj e
      exact d w' (by rw [← q']; exact hocd)
theorem store_ok {M : Model} {A : Around} {E : Value → Shared → Prop} {i : Nat} {x : Str} {v : V} {u : Value} {Q : Unit → Shared → Prop} (I : Inv X pins σ H s) (hN : X.N.Nodup) (hi : X.N[i]? = some x) (hx : Loc X.env.scope x) (r : RelV v u)
    (h : ∀ s', Inv X pins (σ.set i (some v)) H s' → Q () s') (hf : X.fn x = true ∨ X.env.scope.names.lookup x = some .local := by first | exact .inl rfl | exact .inr rfl | assumption) : wpAny M A (storeName X.env x u) Q E s :=
  store_ok2 I hN hi hx r (fun s' I' _ => h s' I') hf
theorem Inv.call' {s' : Shared} {ch : List Addr} (I : Inv X pins σ H s) (ho : s'.os = s.os) (u : Un (frs X.stack) ch H H' s.heap s'.heap) (hok : HOk X.prog X.w H' s'.heap) (hg : AllBare s'.gens)
    (hch : ∀ b ∈ ch, (b ∈ X.ex ∨ X.s₀.heap.objs.size ≤ b) ∧ b ≠ X.env.locals ∧ (∀ x c, X.env.cells.lookup x = some c → c ≠ b) ∧ ∀ p ∈ X.pn ++ pins, p.1 ≠ b) : Inv X pins σ H' s' := by
  obtain ⟨h', g', d', t', o'⟩ := s'
  have e : o' = s.os := ho
  subst e
  exact I.call (g' := g') (t' := t') (d' := d') u hok hg hch
end
/-! ### the judgements -/
noncomputable abbrev XK := Value → Option Addr → Hp → Prop
noncomputable abbrev St := List (Option V)
noncomputable abbrev VK := V → Hp → Prop
noncomputable abbrev TE := St → Hp → VK → Prop
noncomputable abbrev TT := St → Hp → (Bool → Hp → Prop) → Prop
noncomputable abbrev TA := St → Hp → (List V → Hp → Prop) → Prop
structure Ends where
  nx : St → Hp → Prop
  rt : VK
  bk : St → Hp → Prop := fun _ _ => False
  ct : St → Hp → Prop := fun _ _ => False
noncomputable abbrev TS := Ends → St → Hp → Prop

noncomputable def EP (X : Cx) (pins : List (Addr × Obj)) (σ : St) (Q : VK) (u : Value) (s' : Shared) : Prop := ∃ v H', Inv X pins σ H' s' ∧ RelV v u ∧ Q v H'
noncomputable def TP (X : Cx) (pins : List (Addr × Obj)) (σ : St) (Q : Bool → Hp → Prop) (b : Bool) (s' : Shared) : Prop := ∃ H', Inv X pins σ H' s' ∧ Q b H'
noncomputable def AP (X : Cx) (pins : List (Addr × Obj)) (σ : St) (Q : List V → Hp → Prop) (us : List Value) (s' : Shared) : Prop := ∃ vs H', Inv X pins σ H' s' ∧ Vals vs us ∧ Q vs H'
noncomputable def SP (X : Cx) (pins : List (Addr × Obj)) (D : Ends) (f : Flow) (s' : Shared) : Prop :=
  match f with
  | .next => ∃ σ' H', Inv X pins σ' H' s' ∧ D.nx σ' H'
  | .brk => ∃ σ' H', Inv X pins σ' H' s' ∧ D.bk σ' H'
  | .cont => ∃ σ' H', Inv X pins σ' H' s' ∧ D.ct σ' H'
  | .ret u => ∃ v σ' H', Inv X pins σ' H' s' ∧ RelV v u ∧ D.rt v H'

noncomputable def PE (X : Cx) (e : Expr) (t : TE) : Prop :=
  ∀ (pins : List (Addr × Obj)) (s : Shared) (σ : St) (H : Hp) (Q : VK), Inv X pins σ H s → t σ H Q → wpAny (model X.prog X.w) X.A (eval e X.env) (EP X pins σ Q) X.xe s
noncomputable def PT (X : Cx) (e : Expr) (t : TT) : Prop :=
  ∀ (pins : List (Addr × Obj)) (s : Shared) (σ : St) (H : Hp) (Q : Bool → Hp → Prop), Inv X pins σ H s → t σ H Q → wpAny (model X.prog X.w) X.A (isTrue e X.env (eval e X.env)) (TP X pins σ Q) X.xe s
noncomputable def PW (X : Cx) (e : Expr) (t : TT) : Prop :=
  ∀ (whole : Sem Value) (pins : List (Addr × Obj)) (s : Shared) (σ : St) (H : Hp) (Q : Bool → Hp → Prop), Inv X pins σ H s → t σ H Q → wpAny (model X.prog X.w) X.A (isTrue e X.env whole) (TP X pins σ Q) X.xe s
theorem PW.pt {X : Cx} {e : Expr} {t : TT} (h : PW X e t) : PT X e t := h _
noncomputable def PA (X : Cx) (es : List Expr) (t : TA) : Prop :=
  ∀ (pos : Pos) (pins : List (Addr × Obj)) (s : Shared) (σ : St) (H : Hp) (Q : List V → Hp → Prop), Inv X pins σ H s → t σ H Q → wpAny (model X.prog X.w) X.A (spliced (backTo pos (starEach es X.env))) (AP X pins σ Q) X.xe s
noncomputable def PS (X : Cx) (st : Stmt) (t : TS) : Prop :=
  ∀ (pins : List (Addr × Obj)) (s : Shared) (σ : St) (H : Hp) (D : Ends), Inv X pins σ H s → t D σ H → wpAny (model X.prog X.w) X.A (exec st X.env) (SP X pins D) X.xe s
noncomputable def PSs (X : Cx) (st : List Stmt) (t : TS) : Prop :=
  ∀ (pins : List (Addr × Obj)) (s : Shared) (σ : St) (H : Hp) (D : Ends), Inv X pins σ H s → t D σ H → wpAny (model X.prog X.w) X.A (execs st X.env) (SP X pins D) X.xe s
theorem thn {α : Type} {t : Sem α} {Q Q' : α → Shared → Prop} {M : Model} {A : Around} {E : Value → Shared → Prop} {s : Shared} (h : wpAny M A t Q E s) (hQ : ∀ a s, Q a s → Q' a s) : wpAny M A t Q' E s := wpAny_mono h hQ fun _ _ x => x
end L2
namespace L2
open PySem PySem.Spec PyProof.Rows
section
variable {X : Cx}
theorem bin {a b : Expr} {ta tb : TE} (ha : PE X a ta) (hb : PE X b tb) {pins : List (Addr × Obj)} {s : Shared} {σ : St} {H : Hp} {R : V → V → Hp → Prop} (I : Inv X pins σ H s) (h : ta σ H fun x H1 => tb σ H1 fun y H2 => R x y H2)
    {α : Type} {Q : α → Shared → Prop} {f : Value → Value → Sem α}
    (hf : ∀ v u s2 x y H2, Inv X pins σ H2 s2 → RelV x v → RelV y u → R x y H2 → wpAny (model X.prog X.w) X.A (f v u) Q X.xe s2) :
    wpAny (model X.prog X.w) X.A (eval a X.env) (fun v s₁ => wpAny (model X.prog X.w) X.A (eval b X.env) (fun u s₂ => wpAny (model X.prog X.w) X.A (f v u) Q X.xe s₂) X.xe s₁) X.xe s := by
  refine thn (ha pins s σ H _ I h) fun v s1 ⟨x, H1, I1, r1, q1⟩ => ?_
  refine thn (hb pins s1 σ H1 _ I1 q1) fun u s2 ⟨y, H2, I2, r2, q2⟩ => ?_
  exact hf v u s2 x y H2 I2 r1 r2 q2

/-! ### names and constants -/
noncomputable def tVar (i : Nat) : TE := fun σ H Q => ∃ v, σ[i]? = some (some v) ∧ Q v H
noncomputable def tC (v : V) : TE := fun _ H Q => Q v H
theorem pe_var {i : Nat} {x : Str} {pos : Pos} (hN : X.N[i]? = some x) (hv : Vis X.env.scope x) (hd : (x == ("__debug__" : Str)) = false := by decide) (hcd : (x == ("__classdict__" : Str)) = false := by decide) : PE X (.Name x pos) (tVar i) := by
  intro pins s σ H Q I h
  obtain ⟨v, e, h⟩ := h
  obtain ⟨m, hn, hl⟩ := I.loc
  obtain ⟨u, r, l⟩ := hl i x v hN e hv
  have fin : EP X pins σ Q u s := ⟨v, H, I, r, h⟩
  rcases l with ⟨hk, hm⟩ | ⟨hk, c, hc, hcell⟩
  · exact wpAny_Name (wpAny_loadName_local I.ok.kind hk hn hm fin) hd
  · rcases hk with hk | hk
    · exact wpAny_Name (wpAny_loadName_cell I.ok.kind hk hc hcell fin) hd
    · exact wpAny_Name (wpAny_loadName_free I.ok.kind hk hc hcell fin hcd) hd
theorem pe_int {i j pos} : PE X (.Constant (.int i) j pos) (tC (.int i)) := fun _ _ _ H _ I h => wpAny_Constant_int ⟨.int i, H, I.tok _, ⟨_, rfl⟩, h⟩
theorem pe_bl {b j pos} : PE X (.Constant (.bool b) j pos) (tC (.bl b)) := fun _ _ _ H _ I h => Constant_bool ⟨.bl b, H, I, rfl, h⟩
theorem pe_non {j pos} : PE X (.Constant .none j pos) (tC .non) := fun _ _ _ H _ I h => Constant_none ⟨.non, H, I, rfl, h⟩
theorem pe_str {x j pos} : PE X (.Constant (.str x) j pos) (tC (.str x)) := fun _ _ _ H _ I h => Calls.Constant_str ⟨.str x, H, I.tok _, ⟨_, rfl⟩, h⟩

noncomputable def Gl (X : Cx) (x : Str) : Prop := X.env.kindOf x = some .globalImplicit
theorem ld_glob {E : Value → Shared → Prop} {pins : List (Addr × Obj)} {s : Shared} {σ : St} {H : Hp} {x : Str} {u : Value} {pos : Pos} {Q : Value → Shared → Prop} (I : Inv X pins σ H s) (hg : Gl X x) (hm : X.mg x = some u) (h : Q u s)
    (hd : (x == ("__debug__" : Str)) = false := by decide) : wpAny (model X.prog X.w) X.A (eval (.Name x pos) X.env) Q E s :=
  Calls.Name_function_global I.ok.kind hg (Calls.loadGlobal_global (by rw [I.ok.glob]; exact I.mod.glob.keeps I.bk) hm h) hd
theorem ld_blt {E : Value → Shared → Prop} {pins : List (Addr × Obj)} {s : Shared} {σ : St} {H : Hp} {x : Str} {u : Value} {pos : Pos} {Q : Value → Shared → Prop} (I : Inv X pins σ H s) (hg : Gl X x) (hm : X.mg x = none) (hv : bootBuiltins x = some u) (h : Q u s)
    (hn : x ≠ "__name__" := by decide) (hd : (x == ("__debug__" : Str)) = false := by decide) : wpAny (model X.prog X.w) X.A (eval (.Name x pos) X.env) Q E s := by
  obtain ⟨mb, h1, h2⟩ := I.mod.blt
  exact Calls.Name_function_global I.ok.kind hg (Calls.loadGlobal_builtin (by rw [I.ok.glob]; exact I.mod.glob.keeps I.bk) hm (by rw [I.ok.blt]; exact h1.keeps I.bk) ((h2 x hn).trans hv) h) hd
theorem pe_glob {x : Str} {v : V} {u : Value} {pos : Pos} (hg : Gl X x) (hm : X.mg x = some u) (r : RelV v u) (hd : (x == ("__debug__" : Str)) = false := by decide) : PE X (.Name x pos) (tC v) :=
  fun _ _ _ H _ I h => ld_glob I hg hm ⟨v, H, I, r, h⟩ hd
theorem pe_bltn {x : Str} {v : V} {u : Value} {pos : Pos} (hg : Gl X x) (hm : X.mg x = none) (hv : bootBuiltins x = some u) (r : RelV v u) (hn : x ≠ "__name__" := by decide) (hd : (x == ("__debug__" : Str)) = false := by decide) : PE X (.Name x pos) (tC v) :=
  fun _ _ _ H _ I h => ld_blt I hg hm hv ⟨v, H, I, r, h⟩ hn hd

/-! ### arithmetic -/
variable {a b : Expr} {ta tb : TE} {pos : Pos}
/-! ### comparisons -/
noncomputable def PC (X : Cx) (op : CmpOp) (a b : Expr) (t : TE) : Prop :=
  ∀ (pins : List (Addr × Obj)) (s : Shared) (σ : St) (H : Hp) (Q : VK), Inv X pins σ H s → t σ H Q →
    wpAny (model X.prog X.w) X.A (eval a X.env) (fun v s₁ => wpAny (model X.prog X.w) X.A (eval b X.env) (fun u s₂ => wpAny (model X.prog X.w) X.A (compareOp op v u) (EP X pins σ Q) X.xe s₂) X.xe s₁) X.xe s
theorem nobehind (b : Expr) {op : CmpOp} (h : op ≠ .In) (h2 : op ≠ .NotIn) : behindInMarks op b = false := by
  have e1 : (op == CmpOp.In) = false := by cases op <;> first | rfl | exact absurd rfl h
  have e2 : (op == CmpOp.NotIn) = false := by cases op <;> first | rfl | exact absurd rfl h2
  cases b <;> simp [behindInMarks, e1, e2]
noncomputable def tIsN (ta : TE) : TE := fun σ H Q => ta σ H fun x H1 => Q (.bl (decide (x = .non))) H1
noncomputable def tNotN (ta : TE) : TE := fun σ H Q => ta σ H fun x H1 => Q (.bl (!decide (x = .non))) H1
theorem RelV.none_iff {x : V} {v : Value} (r : RelV x v) : (v == Value.none) = decide (x = .non) := by
  cases x with
  | non => cases r; rfl
  | bl _ => cases r; rfl
  | int _ => obtain ⟨t, rfl⟩ := r; rfl
  | str _ => obtain ⟨t, rfl⟩ := r; rfl
  | byt _ => obtain ⟨t, rfl⟩ := r; rfl
  | flt _ => obtain ⟨t, rfl⟩ := r; rfl
  | ref _ => cases r; rfl
  | ty _ => cases r; rfl
theorem pc_isN {j pos'} (ha : PE X a ta) : PC X .Is a (.Constant .none j pos') (tIsN ta) := by
  intro pins s σ H Q I h
  refine thn (ha pins s σ H _ I h) fun v s1 ⟨x, H1, I1, r1, q1⟩ => ?_
  exact Constant_none (is_none_gen ⟨.bl _, H1, I1, by rw [r1.none_iff]; rfl, q1⟩)
theorem pc_notN {j pos'} (ha : PE X a ta) : PC X .IsNot a (.Constant .none j pos') (tNotN ta) := by
  intro pins s σ H Q I h
  refine thn (ha pins s σ H _ I h) fun v s1 ⟨x, H1, I1, r1, q1⟩ => ?_
  exact Constant_none (isnot_none_gen ⟨.bl _, H1, I1, by rw [r1.none_iff]; rfl, q1⟩)
noncomputable def tB (t : TE) : TT := fun σ H Q => t σ H fun x H1 => ∃ c, x = .bl c ∧ Q c H1
theorem pt_cmp {op : CmpOp} {t : TE} (h : PC X op a b t) (h1 : behindInMarks op b = false := by first | exact nobehind _ (by decide) (by decide) | rfl) : PT X (.Compare a [op] [b] pos) (tB t) := by
  intro pins s σ H Q I hw
  refine wpAny_isTrue_Compare1 (thn (h pins s σ H _ I hw) fun v s1 h1 => thn h1 fun u s2 h2 => thn h2 fun c s3 ⟨x, H1, I1, r1, q1⟩ => ?_) h1
  obtain ⟨d, rfl, q⟩ := q1
  cases r1
  exact wpAny_truthy_bool ⟨H1, I1, q⟩
theorem pt_val {e : Expr} {t : TE} (h : PE X e t) (he : ∀ whole, isTrue e X.env whole = (do let v ← whole; standAt e.pos; holding [v] (truthy v)) := by intro _; rfl) : PT X e (tB t) := by
  intro pins s σ H Q I hw
  refine isTrue_plain (thn (h pins s σ H _ I hw) fun v s1 ⟨x, H1, I1, r1, q1⟩ => ?_) (he _)
  obtain ⟨d, rfl, q⟩ := q1
  cases r1
  exact wpAny_truthy_bool ⟨H1, I1, q⟩

/-! ### and, or, not -/
variable {tA tB' : TT} {rest : List Expr}
noncomputable def tAnd (t u : TT) : TT := fun σ H Q => t σ H fun c H1 => if c = true then u σ H1 Q else Q false H1
noncomputable def tOr (t u : TT) : TT := fun σ H Q => t σ H fun c H1 => if c = true then Q true H1 else u σ H1 Q
noncomputable def tNot (t : TT) : TT := fun σ H Q => t σ H fun c H1 => Q (!c) H1
theorem pw_and1 (ha : PT X a tA) : PW X (.BoolOp .And [a] pos) tA := by
  intro wh pins s σ H Q I h
  refine isTrue_and (thn (ha pins s σ H Q I h) fun c s1 e => ?_)
  cases c with
  | true => exact isTrue_and_nil e
  | false => exact e
theorem pw_or1 (ha : PT X a tA) : PW X (.BoolOp .Or [a] pos) tA := by
  intro wh pins s σ H Q I h
  refine isTrue_or (thn (ha pins s σ H Q I h) fun c s1 e => ?_)
  cases c with
  | false => exact isTrue_or_nil e
  | true => exact e
theorem pw_and (ha : PT X a tA) (hb : PW X (.BoolOp .And (b :: rest) pos) tB') : PW X (.BoolOp .And (a :: b :: rest) pos) (tAnd tA tB') := by
  intro wh pins s σ H Q I h
  refine isTrue_and (thn (ha pins s σ H _ I h) fun c s1 ⟨H1, I1, q1⟩ => ?_)
  cases c with
  | true => exact hb wh pins s1 σ H1 Q I1 q1
  | false => exact ⟨H1, I1, q1⟩
theorem pw_or (ha : PT X a tA) (hb : PW X (.BoolOp .Or (b :: rest) pos) tB') : PW X (.BoolOp .Or (a :: b :: rest) pos) (tOr tA tB') := by
  intro wh pins s σ H Q I h
  refine isTrue_or (thn (ha pins s σ H _ I h) fun c s1 ⟨H1, I1, q1⟩ => ?_)
  cases c with
  | true => exact ⟨H1, I1, q1⟩
  | false => exact hb wh pins s1 σ H1 Q I1 q1
theorem pt_not (ha : PT X a tA) : PT X (.UnaryOp .Not a pos) (tNot tA) := by
  intro pins s σ H Q I h
  exact isTrue_not (ha pins s σ H (fun c H1 => Q (!c) H1) I h)
noncomputable def tAndV (ta tb : TE) : TE := fun σ H Q => ta σ H fun x H1 => ∃ c, x = .bl c ∧ if c = true then tb σ H1 Q else Q (.bl false) H1
noncomputable def tNotV (ta : TE) : TE := fun σ H Q => ta σ H fun x H1 => ∃ c, x = .bl c ∧ Q (.bl (!c)) H1
theorem pe_one {op} {t : TE} (h : PE X a t) : PE X (.BoolOp op [a] pos) t := fun pins s σ H Q I hw => BoolOp_one (h pins s σ H Q I hw)
theorem pe_and (ha : PE X a ta) (hb : PE X (.BoolOp .And (b :: rest) pos) tb) : PE X (.BoolOp .And (a :: b :: rest) pos) (tAndV ta tb) := by
  intro pins s σ H Q I h
  refine BoolOp_and (thn (ha pins s σ H _ I h) fun v s1 ⟨x, H1, I1, r1, q1⟩ => ?_)
  obtain ⟨c, rfl, q1⟩ := q1
  cases r1
  refine wpAny_truthy_bool ?_
  cases c with
  | true => exact hb pins s1 σ H1 Q I1 q1
  | false => exact ⟨.bl false, H1, I1, rfl, q1⟩
theorem pe_not (ha : PE X a ta) : PE X (.UnaryOp .Not a pos) (tNotV ta) := by
  intro pins s σ H Q I h
  refine UnaryOp_ (thn (ha pins s σ H _ I h) fun v s1 ⟨x, H1, I1, r1, q1⟩ => ?_)
  obtain ⟨c, rfl, q1⟩ := q1
  cases r1
  exact not_of (wpAny_truthy_bool ⟨.bl (!c), H1, I1, rfl, q1⟩)
end
end L2
namespace L2
open PySem PySem.Spec PyProof.Rows
/-! ### a list, a tuple that is read: tracked, frozen, or an object of the module -/
noncomputable def SqL (K : PySem.W.Frag) (H : Hp) (a : Addr) (xs : List V) : Prop :=
  Rd H a (.lst xs) ∨
    ∃ (o : Obj) (its : Array Value) (n : Nat), K.lookup a = some o ∧ o.cls = .type "list" ∧ o.dict = none ∧ o.data = .seq its n ∧ its.size ≤ sizeLine ∧ Vals xs its.toList
noncomputable def SqT (K : PySem.W.Frag) (H : Hp) (a : Addr) (xs : List V) : Prop :=
  Rd H a (.tup xs) ∨
    ∃ (o : Obj) (its : Array Value) (n : Nat), K.lookup a = some o ∧ o.cls = .type "tuple" ∧ o.data = .seq its n ∧ its.size ≤ sizeLine ∧ Vals xs its.toList
noncomputable def absV : Value → Option V
  | .none => some .non
  | .bool b => some (.bl b)
  | .int i _ => some (.int i)
  | .str x _ => some (.str x)
  | .bytes b _ => some (.byt b)
  | .float b _ => some (.flt b)
  | .ref a => some (.ref a)
  | .type n => some (.ty n)
  | _ => none
theorem RelV.abs {x : V} {u : Value} (r : RelV x u) : absV u = some x := by
  cases x with
  | non => cases r; rfl
  | bl _ => cases r; rfl
  | int _ => obtain ⟨t, rfl⟩ := r; rfl
  | str _ => obtain ⟨t, rfl⟩ := r; rfl
  | byt _ => obtain ⟨t, rfl⟩ := r; rfl
  | flt _ => obtain ⟨t, rfl⟩ := r; rfl
  | ref _ => cases r; rfl
  | ty _ => cases r; rfl
theorem RelV.inj {x y : V} {u : Value} (r : RelV x u) (q : RelV y u) : x = y := Option.some.inj (r.abs.symm.trans q.abs)
theorem Vals.inj : ∀ {xs ys : List V} {us : List Value}, Vals xs us → Vals ys us → xs = ys
  | _, _, _, .nil, .nil => rfl
  | _, _, _, .cons r t, .cons r' t' => by rw [r.inj r', Vals.inj t t']
section
variable {X : Cx} {pins : List (Addr × Obj)} {σ : St} {H : Hp} {s : Shared} {a : Addr} {xs ys : List V}
theorem SqL.of {K : PySem.W.Frag} (h : H a = some (.lst xs)) : SqL K H a xs := .inl (.inl h)
theorem SqT.of {K : PySem.W.Frag} (h : H a = some (.tup xs)) : SqT K H a xs := .inl (.inl h)
theorem Inv.list (I : Inv X pins σ H s) (h : SqL X.K H a xs) : ∃ its : List Value, Vals xs its ∧ PlainL s.heap a its.toArray ∧ xs.length ≤ sizeLine := by
  rcases h with h | ⟨o, its, n, hk, hc, hd, hs, hz, r⟩
  · obtain ⟨z, its, n, r, e⟩ := h.ok I.hok
    exact ⟨its, r, ⟨_, n, e, rfl, rfl, rfl⟩, z⟩
  · refine ⟨its.toList, r, ⟨o, n, I.kIn a o hk, hc, hd, by simpa using hs⟩, ?_⟩
    have e := r.length
    simp only [Array.length_toList] at e
    omega
theorem Inv.tuple (I : Inv X pins σ H s) (h : SqT X.K H a xs) : ∃ its : List Value, Vals xs its ∧ IsTup s.heap a its.toArray ∧ xs.length ≤ sizeLine := by
  rcases h with h | ⟨o, its, n, hk, hc, hs, hz, r⟩
  · obtain ⟨z, its, r, p⟩ := h.ok I.hok
    exact ⟨its, r, p, z⟩
  · refine ⟨its.toList, r, ⟨o, I.kIn a o hk, hc, n, by simpa using hs⟩, ?_⟩
    have e := r.length
    simp only [Array.length_toList] at e
    omega
theorem Inv.list_inj (I : Inv X pins σ H s) (h : SqL X.K H a xs) (h' : SqL X.K H a ys) : xs = ys := by
  obtain ⟨its, r, ⟨o, n, e, _, _, d⟩, _⟩ := I.list h
  obtain ⟨its', r', ⟨o', n', e', _, _, d'⟩, _⟩ := I.list h'
  rw [e] at e'; cases e'
  rw [d] at d'
  injection d' with d1 _
  have : its = its' := by simpa using congrArg Array.toList d1
  subst this
  exact r.inj r'
end
/-! ### another wish about exceptions -/
noncomputable abbrev Cx.wish (X : Cx) (E : Value → Shared → Prop) : Cx := { X with xe := E }
noncomputable abbrev Cx.nox (X : Cx) : Cx := X.wish fun _ _ => False
theorem Cx.Ok.wish {X : Cx} (ok : X.Ok) (E : Value → Shared → Prop) : (X.wish E).Ok :=
  ⟨ok.mod, ok.kind, ok.glob, ok.blt, ok.above, ok.inj, ok.has, ok.cab, ok.hd, ok.frames, ok.stk, ok.exf, ok.bs, ok.bsz, ok.noex, ok.exfs, ok.funs, ok.frf⟩
theorem Cx.Ok.unwish {X : Cx} {E : Value → Shared → Prop} (ok : (X.wish E).Ok) : X.Ok :=
  ⟨ok.mod, ok.kind, ok.glob, ok.blt, ok.above, ok.inj, ok.has, ok.cab, ok.hd, ok.frames, ok.stk, ok.exf, ok.bs, ok.bsz, ok.noex, ok.exfs, ok.funs, ok.frf⟩
section
variable {X : Cx} {pins : List (Addr × Obj)} {σ : St} {H : Hp} {s : Shared} {E : Value → Shared → Prop}
theorem Inv.wish (I : Inv X pins σ H s) (E : Value → Shared → Prop) : Inv (X.wish E) pins σ H s := ⟨I.ok.wish E, I.os, I.bare, I.base, I.loc, I.cell, I.free, I.freeC, I.pin, I.hok, I.len⟩
theorem Inv.unwish (I : Inv (X.wish E) pins σ H s) : Inv X pins σ H s := ⟨I.ok.unwish, I.os, I.bare, I.base, I.loc, I.cell, I.free, I.freeC, I.pin, I.hok, I.len⟩
theorem SP.unwish {D : Ends} {f : Flow} {s' : Shared} (h : SP (X.wish E) pins D f s') : SP X pins D f s' := by
  cases f with
  | next => obtain ⟨σ', H', I, q⟩ := h; exact ⟨σ', H', I.unwish, q⟩
  | brk => obtain ⟨σ', H', I, q⟩ := h; exact ⟨σ', H', I.unwish, q⟩
  | cont => obtain ⟨σ', H', I, q⟩ := h; exact ⟨σ', H', I.unwish, q⟩
  | ret u => obtain ⟨v, σ', H', I, r, q⟩ := h; exact ⟨v, σ', H', I.unwish, r, q⟩
theorem PE.nox {e : Expr} {t : TE} (h : PE X.nox e t) : PE X e t := fun pins s σ H Q I hw =>
  wpAny_mono (h pins s σ H Q (I.wish _) hw) (fun _ _ ⟨v, H', I', r, q⟩ => ⟨v, H', I'.unwish, r, q⟩) fun _ _ z => False.elim z
theorem PT.nox {e : Expr} {t : TT} (h : PT X.nox e t) : PT X e t := fun pins s σ H Q I hw =>
  wpAny_mono (h pins s σ H Q (I.wish _) hw) (fun _ _ ⟨H', I', q⟩ => ⟨H', I'.unwish, q⟩) fun _ _ z => False.elim z
theorem PSs.nox {st : List Stmt} {t : TS} (h : PSs X.nox st t) : PSs X st t := fun pins s σ H D I hw =>
  wpAny_mono (h pins s σ H D (I.wish _) hw) (fun _ _ q => q.unwish) fun _ _ z => False.elim z
end
/-! ### blocks and small statements -/
section
variable {X : Cx} {st : Stmt} {rest : List Stmt} {t u : TS} {e : Expr} {te : TE} {pos : Pos}
noncomputable def tNext : TS := fun D σ H => D.nx σ H
noncomputable def tSeq (t u : TS) : TS := fun D σ H => t { D with nx := u D } σ H
theorem pss_nil : PSs X [] tNext := fun _ _ σ H _ I h => wpAny_execs_nil ⟨σ, H, I, h⟩
theorem pss_cons (h1 : PS X st t) (h2 : PSs X rest u) : PSs X (st :: rest) (tSeq t u) := by
  intro pins s σ H D I h
  refine wpAny_execs_cons (thn (h1 pins s σ H { D with nx := u D } I h) fun f s1 q => ?_)
  cases f with
  | next =>
    obtain ⟨σ', H', I', q⟩ := q
    exact h2 pins s1 σ' H' D I' q
  | ret v => exact q
  | brk => exact q
  | cont => exact q
theorem pss_one (h1 : PS X st t) : PSs X [st] t := by
  intro pins s σ H D I h
  refine wpAny_execs_cons (thn (h1 pins s σ H D I h) fun f s1 q => ?_)
  cases f with
  | next => exact wpAny_execs_nil q
  | ret v => exact q
  | brk => exact q
  | cont => exact q
theorem Inv.quiet {pins : List (Addr × Obj)} {σ : St} {H : Hp} {s : Shared} (I : Inv X pins σ H s) : interactive X.env = false := by simp [interactive, I.ok.kind]
noncomputable def tDrop (te : TE) : TS := fun D σ H => te σ H fun _ H1 => D.nx σ H1
theorem ps_expr (he : PE X e te) (hs : swapsWith e none pos.line X.env = pure false := by rfl) : PS X (.Expr e pos) (tDrop te) := by
  intro pins s σ H D I h
  exact wpAny_Expr_any (thn (he pins s σ H _ I h) fun v s1 ⟨x, H1, I1, r1, q1⟩ => ⟨σ, H1, I1, q1⟩) I.quiet hs
noncomputable def tRet (te : TE) : TS := fun D σ H => te σ H D.rt
theorem ps_ret (he : PE X e te) : PS X (.Return (some e) pos) (tRet te) := by
  intro pins s σ H D I h
  exact wpAny_Return_some (thn (he pins s σ H _ I h) fun v s1 ⟨x, H1, I1, r1, q1⟩ => ⟨x, σ, H1, I1, r1, q1⟩)
noncomputable def tIfS (c : TT) (t u : TS) : TS := fun D σ H => c σ H fun b H1 => if b = true then t D σ H1 else u D σ H1
theorem ps_if {c : Expr} {a b : List Stmt} {tc : TT} (hc : PT X c tc) (ha : PSs X a t) (hb : PSs X b u) : PS X (.If c a b pos) (tIfS tc t u) := by
  intro pins s σ H D I h
  refine wpAny_If (thn (hc pins s σ H _ I h) fun d s1 ⟨H1, I1, q1⟩ => ?_)
  cases d with
  | true => exact ha pins s1 σ H1 D I1 q1
  | false => exact hb pins s1 σ H1 D I1 q1
noncomputable def tNever : TS := fun _ _ _ => False
theorem pss_never {sts : List Stmt} : PSs X sts tNever := fun _ _ _ _ _ _ h => h.elim
end
/-! ### targets -/
noncomputable abbrev TG := V → St → Hp → (St → Hp → Prop) → Prop
noncomputable abbrev TGs := List V → St → Hp → (St → Hp → Prop) → Prop
noncomputable def PG (X : Cx) (target : Expr) (t : TG) : Prop :=
  ∀ (pins : List (Addr × Obj)) (s : Shared) (σ : St) (H : Hp) (v : V) (u : Value) (Q : St → Hp → Prop), Inv X pins σ H s → RelV v u → t v σ H Q →
    wpAny (model X.prog X.w) X.A (assign target X.env u) (fun _ s' => ∃ σ' H', Inv X pins σ' H' s' ∧ Q σ' H') X.xe s
noncomputable def PGs (X : Cx) (ts : List Expr) (t : TGs) : Prop :=
  ∀ (pins : List (Addr × Obj)) (s : Shared) (σ : St) (H : Hp) (vs : List V) (us : List Value) (Q : St → Hp → Prop), Inv X pins σ H s → Vals vs us → t vs σ H Q →
    wpAny (model X.prog X.w) X.A (assignInOrder ((assignEach ts X.env).map (·.2)) us) (fun _ s' => ∃ σ' H', Inv X pins σ' H' s' ∧ Q σ' H') X.xe s
noncomputable abbrev TSet := V → V → V → Hp → (Hp → Prop) → Prop
noncomputable def PSet (X : Cx) (t : TSet) : Prop :=
  ∀ (pins : List (Addr × Obj)) (s : Shared) (σ : St) (H : Hp) (o i v : V) (ov iv u : Value) (Q : Hp → Prop), Inv X pins σ H s → RelV o ov → RelV i iv → RelV v u → t o i v H Q →
    wpAny (model X.prog X.w) X.A (setItem ov iv u) (fun _ s' => ∃ H', Inv X pins σ H' s' ∧ Q H') X.xe s
section
variable {X : Cx} {pos : Pos}
noncomputable def gName (i : Nat) : TG := fun v σ H Q => Q (σ.set i (some v)) H
theorem pg_name {i : Nat} {x : Str} (hN : X.N.Nodup) (hi : X.N[i]? = some x) (hx : Loc X.env.scope x) (hf : X.fn x = true ∨ X.env.scope.names.lookup x = some .local := by first | exact .inl rfl | exact .inr rfl | assumption) : PG X (.Name x pos) (gName i) := by
  intro pins s σ H v u Q I r h
  exact wpAny_assign_Name (store_ok I hN hi hx r (fun s' I' => ⟨_, H, I', h⟩) hf)
noncomputable def gNil : TGs := fun vs σ H Q => vs = [] ∧ Q σ H
noncomputable def gCons (t : TG) (u : TGs) : TGs := fun vs σ H Q => ∃ v r, vs = v :: r ∧ t v σ H fun σ' H' => u r σ' H' Q
theorem pgs_nil : PGs X [] gNil := by
  intro pins s σ H vs us Q I r h
  obtain ⟨e, h⟩ := h
  subst e
  cases r
  exact assignInOrder_nil ⟨σ, H, I, h⟩
theorem pgs_cons {e : Expr} {es : List Expr} {t : TG} {u : TGs} (h1 : PG X e t) (h2 : PGs X es u)
    (hs : (assignEach (e :: es) X.env).map (·.2) = assign e X.env :: (assignEach es X.env).map (·.2) := by rfl) : PGs X (e :: es) (gCons t u) := by
  intro pins s σ H vs us Q I r h
  obtain ⟨v, vr, e1, h⟩ := h
  subst e1
  cases r with
  | cons r rr =>
    rw [hs]
    refine assignInOrder_cons (thn (h1 pins s σ H _ _ _ I r h) fun _ s1 ⟨σ1, H1, I1, q1⟩ => ?_)
    exact h2 pins s1 σ1 H1 _ _ Q I1 rr q1
noncomputable def gTup (K : PySem.W.Frag) (n : Nat) (t : TGs) : TG := fun v σ H Q => ∃ a xs, v = .ref a ∧ SqT K H a xs ∧ xs.length = n ∧ t xs σ H Q
theorem pg_tup {es : List Expr} {k : Nat} {t : TGs} {n : Nat} (hc : X.calm = true) (h : PGs X es t)
    (hn : (assignEach es X.env).length = n := by rfl) (hst : (assignEach es X.env).findIdx? (·.1) = none := by rfl) : PG X (.Tuple es k pos) (gTup X.K n t) := by
  intro pins s σ H v u Q I r hw
  obtain ⟨a, xs, e1, hq, hl, hw⟩ := hw
  subst e1
  cases r
  obtain ⟨its, rv, ht, hz⟩ := I.tuple hq
  refine assign_Tuple_tuple (I.ok.hd hc) ht (by simp [hn, ← hl, rv.length]) hst fun h' hx => ?_
  have I1 : Inv X pins σ H { s with heap := h' } := I.kept (t' := s.toks) fun b o e => hx b o (Nat.ne_of_lt (Heap.lt_size e)) e
  exact h pins _ σ H xs _ Q I1 (by simpa using rv) hw
noncomputable def gSub (to ti : TE) (t : TSet) : TG := fun v σ H Q => to σ H fun o H1 => ti σ H1 fun i H2 => t o i v H2 fun H3 => Q σ H3
theorem pg_sub {o i : Expr} {to ti : TE} {t : TSet} (ho : PE X o to) (hi : PE X i ti) (hs : PSet X t)
    (ha : ∀ v, assign (.Subscript o i pos) X.env v = (do
      let ov ← holding [v] (eval o X.env)
      let iv ← holding [v, ov] (eval i X.env)
      standAt pos
      holding [v, ov, iv] (setItem ov iv v)
      release [v, ov, iv] []) := by intro _; rfl) : PG X (.Subscript o i pos) (gSub to ti t) := by
  intro pins s σ H v u Q I r h
  rw [ha]
  refine wpAny_bind (wpAny_holding (thn (ho pins s σ H _ I h) fun ov s1 ⟨x, H1, I1, r1, q1⟩ => ?_))
  refine wpAny_bind (wpAny_holding (thn (hi pins s1 σ H1 _ I1 q1) fun iv s2 ⟨y, H2, I2, r2, q2⟩ => ?_))
  refine wpAny_bind (wpAny_standAt (wpAny_bind (wpAny_holding (thn (hs pins s2 σ H2 x y v ov iv u _ I2 r1 r2 r q2) fun _ s3 ⟨H3, I3, q3⟩ => ?_))))
  exact wpAny_release ⟨σ, H3, I3, q3⟩
noncomputable def tAsg (te : TE) (g : TG) : TS := fun D σ H => te σ H fun x H1 => g x σ H1 D.nx
theorem ps_asg {tg e : Expr} {te : TE} {g : TG} (he : PE X e te) (hg : PG X tg g) (hs : swapsWithSole [tg] e pos.line X.env = pure false := by rfl) (hw : swappedStores [tg] e X.env = pure none := by rfl)
    (h1 : (assignEach [tg] X.env).map (·.2) = [assign tg X.env] := by rfl) : PS X (.Assign [tg] e pos) (tAsg te g) := by
  intro pins s σ H D I h
  refine wpAny_Assign_stores (thn (he pins s σ H _ I h) fun v s1 ⟨x, H1, I1, r1, q1⟩ => ?_) hs hw
  rw [h1]
  exact thn (hg pins s1 σ H1 x v _ I1 r1 q1) fun _ s2 q => q
theorem ps_set {i : Nat} {x : Str} {e : Expr} {te : TE} {pos' : Pos} (hN : X.N.Nodup) (hi : X.N[i]? = some x) (hx : Loc X.env.scope x) (he : PE X e te) (hs : swapsWith e (some (.Name x pos')) pos.line X.env = pure false := by rfl) (hf : X.fn x = true ∨ X.env.scope.names.lookup x = some .local := by first | exact .inl rfl | exact .inr rfl | assumption) :
    PS X (.Assign [.Name x pos'] e pos) (tAsg te (gName i)) := by
  intro pins s σ H D I h
  refine wpAny_Assign_Name (thn (he pins s σ H _ I h) fun v s1 ⟨y, H1, I1, r1, q1⟩ => ?_) hs
  exact store_ok I1 hN hi hx r1 (fun s2 I2 => ⟨_, H1, I2, q1⟩) hf
end
/-! ### while -/
section
variable {X : Cx} {pos : Pos}
noncomputable def tWhile (c : TT) (tb : TS) : TS := fun D σ H => ∃ W : Nat → St → Hp → Prop, (∃ m, W m σ H) ∧ ∀ m σ H, W m σ H →
  c σ H fun b H1 => if b = true then ∃ N : St → Hp → Prop, (∀ σ' H', N σ' H' → ∃ m', m' < m ∧ W m' σ' H') ∧ tb { D with nx := N, ct := N, bk := D.nx } σ H1 else D.nx σ H1
theorem ps_while {c : Expr} {body : List Stmt} {tc : TT} {tb : TS} (hp : PassesOwn (model X.prog X.w) X.A X.env X.xe) (hc : PT X c tc) (hb : PSs X body tb) : PS X (.While c body [] pos) (tWhile tc tb) := by
  intro pins s σ H D I h
  obtain ⟨W, ⟨m0, w0⟩, turn⟩ := h
  refine wpAny_While (codeAny_whileLoop (fun n s' => ∃ σ' H', Inv X pins σ' H' s' ∧ W n σ' H') ?_ m0 ⟨σ, H, I, w0⟩)
  rintro n s1 ⟨σ1, H1, I1, w1⟩
  refine wpAny_passesOwn hp (thn (hc pins s1 σ1 H1 _ I1 (turn n σ1 H1 w1)) fun b s2 ⟨H2, I2, q2⟩ => ?_)
  cases b with
  | true =>
    obtain ⟨N, hN, q2⟩ := q2
    rw [if_pos rfl]
    refine wpAny_passesOwn hp (thn (hb pins s2 σ1 H2 _ I2 q2) fun f s3 q3 => ?_)
    cases f with
    | next =>
      obtain ⟨σ3, H3, I3, n3⟩ := q3
      obtain ⟨m', hm, w3⟩ := hN σ3 H3 n3
      exact ⟨m', hm, σ3, H3, I3, w3⟩
    | cont =>
      obtain ⟨σ3, H3, I3, n3⟩ := q3
      obtain ⟨m', hm, w3⟩ := hN σ3 H3 n3
      exact ⟨m', hm, σ3, H3, I3, w3⟩
    | brk => exact q3
    | ret v => exact q3
  | false =>
    rw [if_neg Bool.false_ne_true]
    exact wpAny_execs_nil ⟨σ1, H2, I2, q2⟩
end
/-! ### what a loop or a comprehension walks -/
structure It where
  go : Nat → Hp → Prop
  yld : Nat → Hp → V → Hp → Prop
  stop : Nat → Hp → Prop
noncomputable def FpOk (X : Cx) (pins : List (Addr × Obj)) (H : Hp) (b : Addr) : Prop :=
  H b = none ∧ b ≠ X.env.locals ∧ b ∉ X.fs ∧ (b ∈ X.ex ∨ X.s₀.heap.objs.size ≤ b) ∧ (∀ x c, X.env.cells.lookup x = some c → c ≠ b) ∧ ∀ p ∈ X.pn ++ pins, p.1 ≠ b
theorem Inv.fpOk {X : Cx} {pins : List (Addr × Obj)} {σ : St} {H H' : Hp} {s : Shared} {b : Addr} (I : Inv X pins σ H s) (hb : s.heap.objs.size ≤ b) (hn : H' b = none) : FpOk X pins H' b := by
  refine ⟨hn, Nat.ne_of_gt (Nat.lt_of_lt_of_le I.lt hb), I.nofs hb, .inr (Nat.le_trans I.sz hb), fun x c e z => ?_, fun p hp z => ?_⟩
  · obtain ⟨v, q⟩ := I.cell x c e
    exact absurd (Nat.lt_of_lt_of_le q.lt (by rw [z]; exact hb)) (Nat.lt_irrefl _)
  · exact absurd (Nat.lt_of_lt_of_le (Heap.lt_size (I.pin p hp).1) (by rw [z]; exact hb)) (Nat.lt_irrefl _)
structure Turn (P : Program) (w : World) (K : PySem.W.Frag) (tg : Expr) (J : It) (fp : List Addr) (it : Addr) (tn : Nat → Heap → Prop) : Prop where
  mem : it ∈ fp
  obj : ∀ i h, tn i h → ∀ b ∈ fp, ∃ o, h.get? b = some o ∧ ∀ v, o.data ≠ .cell v
  keep : ∀ i h h', tn i h → (∀ b ∈ fp, ∀ o, h.get? b = some o → h'.get? b = some o) → tn i h'
  item : ∀ (X : Cx), X.prog = P → X.w = w → X.K = K → X.calm = true → ∀ (i : Nat) (pins : List (Addr × Obj)) (s : Shared) (σ : St) (H : Hp) (E : Value → Shared → Prop), Inv X pins σ H s → (∀ b ∈ fp, FpOk X pins H b) → tn i s.heap → J.go i H →
    wpAny (model P w) X.A (pyNext (.ref it)) (fun r s1 => ∃ u, r = some u ∧
      wpAny (model P w) X.A (letOwnedTupleGo tg (.ref it) u) (fun _ s2 => ∃ x H', Inv X pins σ H' s2 ∧ RelV x u ∧ J.yld i H x H' ∧ tn (i + 1) s2.heap ∧ ∀ b ∈ fp, H' b = none) E s1) E s
  done : ∀ (X : Cx), X.prog = P → X.w = w → X.K = K → X.calm = true → ∀ (i : Nat) (pins : List (Addr × Obj)) (s : Shared) (σ : St) (H : Hp) (E : Value → Shared → Prop), Inv X pins σ H s → (∀ b ∈ fp, FpOk X pins H b) → tn i s.heap → J.stop i H →
    wpAny (model P w) X.A (pyNext (.ref it)) (fun r s1 => r = none ∧ Inv X pins σ H s1) E s
  self : ∀ (A : Around) (i : Nat) (s : Shared) (Q : Value → Shared → Prop) (E : Value → Shared → Prop), tn i s.heap → Q (.ref it) s → wpAny (model P w) A (pyIter (.ref it)) Q E s
noncomputable abbrev TI := St → Hp → (It → Hp → Prop) → Prop
noncomputable def PIE (X : Cx) (pins : List (Addr × Obj)) (σ : St) (tg : Expr) (R : It → Hp → Prop) (itv : Value) (s2 : Shared) : Prop :=
  ∃ (it : Addr) (fp : List Addr) (tn : Nat → Heap → Prop) (J : It) (H' : Hp), itv = .ref it ∧ Inv X pins σ H' s2 ∧ Turn X.prog X.w X.K tg J fp it tn ∧ tn 0 s2.heap ∧ (∀ b ∈ fp, FpOk X pins H' b) ∧ R J H'
noncomputable def PI (X : Cx) (tg iter : Expr) (wi : TI) : Prop :=
  ∀ (pins : List (Addr × Obj)) (s : Shared) (σ : St) (H : Hp) (R : It → Hp → Prop), Inv X pins σ H s → wi σ H R →
    wpAny (model X.prog X.w) X.A (eval iter X.env) (fun v s1 => wpAny (model X.prog X.w) X.A (pyIter v) (PIE X pins σ tg R) X.xe s1) X.xe s

theorem go_of {M : Model} {A : Around} {E : Value → Shared → Prop} {s : Shared} {tg : Expr} {it : Addr} {u : Value} {o : Obj} {n : String} {vs : Array Value} {Q : Unit → Shared → Prop} (ho : s.heap.get? it = some o) (hc : o.cls = .type n) (hd : o.data = .fields vs)
    (hn : ["enumerate", "zip", "dict_itemiterator", "dict_reverseitemiterator", "odict_iterator", "itertools.zip_longest", "itertools.pairwise"].contains n = false) (hQ : Q () s) : wpAny M A (letOwnedTupleGo tg (.ref it) u) Q E s := by
  unfold letOwnedTupleGo
  cases tg <;> first
    | exact wpAny_pure hQ
    | (cases u <;> first
        | exact wpAny_pure hQ
        | (refine wpAny_bind (wpAny_load ho ?_)
           rw [hc, hd]
           show wpAny M A (if (["enumerate", "zip", "dict_itemiterator", "dict_reverseitemiterator", "odict_iterator", "itertools.zip_longest", "itertools.pairwise"].contains n && vs[0]? == some (rawInt _)) = true then _ else _) Q E s
           rw [if_neg (by intro h; rw [hn, Bool.false_and] at h; cases h)]
           exact wpAny_pure hQ))

noncomputable def Itl (K : PySem.W.Frag) (a : Addr) : It :=
  ⟨fun i H => ∃ xs x, SqL K H a xs ∧ xs[i]? = some x, fun i H x H' => H' = H ∧ ∀ xs, SqL K H a xs → xs[i]? = some x, fun i H => ∃ xs, SqL K H a xs ∧ xs.length ≤ i⟩
noncomputable def Itr (lo : Int) (n : Nat) : It := ⟨fun i _ => i < n, fun i H x H' => H' = H ∧ x = .int (lo + i), fun i _ => n ≤ i⟩
theorem turn_list {P : Program} {w : World} {K : PySem.W.Frag} {tg : Expr} (a it : Addr) : Turn P w K tg (Itl K a) [it] it (fun i h => h.IsListIter it a i) where
  mem := by simp
  obj := fun i h st b hb => by
    have e : b = it := by simpa using hb
    subst e
    obtain ⟨o, e, c, d⟩ := st
    exact ⟨o, e, fun v z => by rw [d] at z; cases z⟩
  keep := fun i h h' st k => st.at fun o e => k it (by simp) o e
  item := by
    intro X hP hw hK hc i pins s σ H E I hf st hg
    subst hP hw hK
    obtain ⟨xs, x, hq, hx⟩ := hg
    obtain ⟨its, rv, p, hz⟩ := I.list hq
    obtain ⟨u, hu, ru⟩ := rv.get hx
    obtain ⟨f0, f1, f2, f3, f4, f5⟩ := hf it (by simp)
    refine wpAny_pyNext_list_item st p.isList (x := u) (by simpa using hu) fun h' st' sb => ?_
    have I1 : Inv X pins σ H { s with heap := h' } := I.turned (t' := s.toks) (fun b o hb e => (sb.2 b hb).trans e) f0 f1 f3 f4 f5
    obtain ⟨o, e, c, d⟩ := id st'
    exact ⟨u, rfl, go_of (s := { s with heap := h' }) e c d (by decide) ⟨x, H, I1, ru, ⟨rfl, fun ys hy => by rw [I.list_inj hy hq]; exact hx⟩, st', fun b hb => (hf b hb).1⟩⟩
  done := by
    intro X hP hw hK hc i pins s σ H E I hf st hg
    subst hP hw hK
    obtain ⟨xs, hq, hx⟩ := hg
    obtain ⟨its, rv, p, hz⟩ := I.list hq
    obtain ⟨f0, f1, f2, f3, f4, f5⟩ := hf it (by simp)
    have hl := rv.length
    exact wpAny_pyNext_list_end (I.ok.hd hc) st p.isList (by simp; omega) fun h' eb => ⟨rfl, I.turned (t' := s.toks) (fun b o hb e => eb b o hb e) f0 f1 f3 f4 f5⟩
  self := fun _ _ _ _ _ st h => wpAny_pyIter_listiter st h
theorem turn_range {P : Program} {w : World} {K : PySem.W.Frag} {tg : Expr} (it : Addr) (lo : Int) (n : Nat) : Turn P w K tg (Itr lo n) [it] it (fun i h => IsRangeIter h it (lo + (i : Nat) * 1) ((n : Int) - (i : Nat)) 1) where
  mem := by simp
  obj := fun i h st b hb => by
    have e : b = it := by simpa using hb
    subst e
    exact ⟨_, st, fun v z => by
      have z' : Data.fields _ = Data.cell v := z
      cases z'⟩
  keep := fun i h h' st k => k it (by simp) _ st
  item := by
    intro X hP hw hK hc i pins s σ H E I hf st hg
    subst hP hw hK
    obtain ⟨f0, f1, f2, f3, f4, f5⟩ := hf it (by simp)
    have W := Walks.range (prog := X.prog) (w := X.w) (I.ok.hd hc) it lo 1 n
    refine W.item i s _ _ hg st fun v h' tk hv st' kk => ?_
    obtain ⟨t, rfl⟩ := hv
    have I1 : Inv X pins σ H { s with heap := h', toks := tk } := I.turned (fun b o hb e => kk b o (by simpa using hb) e) f0 f1 f3 f4 f5
    refine ⟨_, rfl, go_of (s := { s with heap := h', toks := tk }) (n := "range_iterator") st' rfl rfl (by decide) ⟨.int (lo + i), H, I1, ⟨t, ?_⟩, ⟨rfl, rfl⟩, st', fun b hb => (hf b hb).1⟩⟩
    rw [Int.mul_one]
  done := by
    intro X hP hw hK hc i pins s σ H E I hf st hg
    subst hP hw hK
    obtain ⟨f0, f1, f2, f3, f4, f5⟩ := hf it (by simp)
    exact wpAny_pyNext_range_end (I.ok.hd hc) st (by have : n ≤ i := hg; omega) fun h' eb => ⟨rfl, I.turned (t' := s.toks) (fun b o hb e => eb b o hb e) f0 f1 f3 f4 f5⟩
  self := fun _ _ _ _ _ st h => wpAny_pyIter_rangeiter st h
end L2
namespace L2
open PySem PySem.Spec PyProof.Rows
section
variable {X : Cx} {tg : Expr}
noncomputable def iList (K : PySem.W.Frag) (tl : TE) : TI := fun σ H R => tl σ H fun x H1 => ∃ a, x = .ref a ∧ (∃ xs, SqL K H1 a xs) ∧ R (Itl K a) H1
theorem pi_list {l : Expr} {tl : TE} (hl : PE X l tl) : PI X tg l (iList X.K tl) := by
  intro pins s σ H R I h
  refine thn (hl pins s σ H _ I h) fun v s1 ⟨x, H1, I1, r1, q1⟩ => ?_
  obtain ⟨a, e, ⟨xs, hq⟩, q⟩ := q1
  subst e
  cases r1
  obtain ⟨its, rv, p, hz⟩ := I1.list hq
  refine wpAny_pyIter_list p.isList ?_
  refine ⟨s1.heap.objs.size, [s1.heap.objs.size], _, _, H1, rfl, I1.kept (t' := s1.toks) fun b o e => Heap.get?_push_of_some _ e, turn_list a _, ⟨_, Heap.get?_push_size _ rfl, rfl, rfl⟩, fun b hb => ?_, q⟩
  have e : b = s1.heap.objs.size := by simpa using hb
  subst e
  exact I1.fpOk (Nat.le_refl _) (I1.hok.fresh (Nat.le_refl _))
theorem range_it {pins : List (Addr × Obj)} {σ : St} {H : Hp} {s : Shared} {R : It → Hp → Prop} {E : Value → Shared → Prop} {lo hi : Int} {t u v : Tok} {tk : Nat} (I : Inv X pins σ H s) (h1 : -(2 ^ 62) ≤ lo) (h2 : lo < 2 ^ 62) (h3 : -(2 ^ 62) ≤ hi) (h4 : hi < 2 ^ 62)
    (q : R (Itr lo (hi - lo).toNat) H) : wpAny (model X.prog X.w) X.A (pyIter (.ref s.heap.objs.size)) (PIE X pins σ tg R) E { s with heap := s.heap.push { cls := .type "range", data := .fields #[.int lo t, .int hi u, .int 1 v] }, toks := tk } := by
  refine wpAny_pyIter_range (IsRange.new ..) (small_one h1 h2 h3 h4) ?_
  have I1 : Inv X pins σ H { s with heap := s.heap.push { cls := .type "range", data := .fields #[.int lo t, .int hi u, .int 1 v] }, toks := tk } := I.kept fun b o e => Heap.get?_push_of_some _ e
  refine ⟨(s.heap.push { cls := .type "range", data := .fields #[.int lo t, .int hi u, .int 1 v] }).objs.size, [(s.heap.push { cls := .type "range", data := .fields #[.int lo t, .int hi u, .int 1 v] }).objs.size], _, _, H, rfl,
    I1.kept (t' := tk) fun b o e => Heap.get?_push_of_some _ e, turn_range _ lo (hi - lo).toNat, ?_, fun b hb => ?_, q⟩
  · have e1 : lo + ((0 : Nat) : Int) * 1 = lo := by simp
    have e2 : (((hi - lo).toNat : Nat) : Int) - ((0 : Nat) : Int) = Builtin.Range.rangeSize lo hi 1 := by rw [rangeSize_one]; split <;> omega
    show IsRangeIter _ _ (lo + ((0 : Nat) : Int) * 1) ((((hi - lo).toNat : Nat) : Int) - ((0 : Nat) : Int)) 1
    rw [e1, e2]
    exact Heap.get?_push_size _ rfl
  · have e : b = (s.heap.push { cls := .type "range", data := .fields #[.int lo t, .int hi u, .int 1 v] }).objs.size := by simpa using hb
    subst e
    exact I1.fpOk (Nat.le_refl _) (I1.hok.fresh (Nat.le_refl _))
noncomputable def iRng1 (ta : TA) : TI := fun σ H R => ta σ H fun vs H1 => ∃ j : Int, vs = [.int j] ∧ -(2 ^ 62) ≤ j ∧ j < 2 ^ 62 ∧ R (Itr 0 j.toNat) H1
theorem pi_range1 {a : Expr} {ta : TA} {p pos : Pos} (hg : Gl X "range") (hm : X.mg "range" = none) (ha : PA X [a] ta) (hs : starEach [a] X.env = [(false, eval a X.env)] := by rfl) : PI X tg (.Call (.Name "range" p) [a] [] pos) (iRng1 ta) := by
  intro pins s σ H R I h
  refine Call_ (ld_blt I hg hm boot_range (PyProof.Rows.callWith_type1 (thn (ha pos pins s σ H _ I h) fun us s1 ⟨vs, H1, I1, r1, q1⟩ => ?_) hs rfl))
  obtain ⟨j, e, q1, q2, q⟩ := q1
  subst e
  cases r1 with
  | cons r rr =>
    cases rr
    obtain ⟨t, rfl⟩ := r
    exact call_range_1 (range_it I1 (by omega) (by omega) q1 q2 (by simpa using q))
/-! ### for -/
noncomputable def tFor (wi : TI) (g : TG) (tb : TS) : TS := fun D σ H => wi σ H fun J H1 => ∃ W : Nat → Nat → St → Hp → Prop, (∃ m, W 0 m σ H1) ∧ ∀ i m σ H, W i m σ H →
  (J.stop i H ∧ D.nx σ H) ∨ (J.go i H ∧ ∃ N : St → Hp → Prop, (∀ σ' H', N σ' H' → ∃ m', m' < m ∧ W (i + 1) m' σ' H') ∧ ∀ x H', J.yld i H x H' → g x σ H' fun σ2 H2 => tb { D with nx := N, ct := N, bk := D.nx } σ2 H2)
noncomputable def pinsAt (fp : List Addr) (h : Heap) : List (Addr × Obj) := fp.filterMap fun b => (h.get? b).map fun o => (b, o)
theorem mem_pinsAt {fp : List Addr} {h : Heap} {b : Addr} {o : Obj} (hb : b ∈ fp) (e : h.get? b = some o) : (b, o) ∈ pinsAt fp h := List.mem_filterMap.mpr ⟨b, hb, by rw [e]; rfl⟩
theorem of_pinsAt {fp : List Addr} {h : Heap} {p : Addr × Obj} (hp : p ∈ pinsAt fp h) : p.1 ∈ fp ∧ h.get? p.1 = some p.2 := by
  obtain ⟨b, hb, e⟩ := List.mem_filterMap.mp hp
  cases q : h.get? b with
  | none => rw [q] at e; cases e
  | some o =>
    rw [q] at e
    have e' : (b, o) = p := Option.some.inj e
    subst e'
    exact ⟨hb, q⟩
theorem Inv.pinned {pins : List (Addr × Obj)} {σ : St} {H : Hp} {s : Shared} {fp : List Addr} (I : Inv X pins σ H s) (hf : ∀ b ∈ fp, FpOk X pins H b) (ho : ∀ b ∈ fp, ∃ o, s.heap.get? b = some o ∧ ∀ v, o.data ≠ .cell v) : Inv X (pins ++ pinsAt fp s.heap) σ H s :=
  I.pins_of fun p hp => (List.mem_append.mp hp).elim (fun z => I.pin p (List.mem_append_right _ z)) fun z => by
    obtain ⟨hb, e⟩ := of_pinsAt z
    obtain ⟨f0, f1, f2, _⟩ := hf p.1 hb
    obtain ⟨o, e', d⟩ := ho p.1 hb
    rw [e] at e'; cases e'
    exact ⟨e, f0, f1, f2, d⟩
theorem Inv.unpinned {pins pl : List (Addr × Obj)} {σ : St} {H : Hp} {s : Shared} (I : Inv X (pins ++ pl) σ H s) : Inv X pins σ H s := I.pins_of fun p hp => I.pin p (List.mem_append_right _ (List.mem_append_left _ hp))
theorem ps_for {iter : Expr} {body : List Stmt} {wi : TI} {g : TG} {tb : TS} {pos : Pos} (hp : PassesOwn (model X.prog X.w) X.A X.env X.xe) (hc : X.calm = true) (hi : PI X tg iter wi) (hg : PG X tg g) (hb : PSs X body tb)
    (hs : ∀ x, foldedSetIterable iter X.env x = pure x := by intro _; rfl) : PS X (.For tg iter body [] pos) (tFor wi g tb) := by
  intro pins s σ H D I h
  refine wpAny_For (thn (hi pins s σ H _ I h) fun v s1 h1 => thn h1 fun itv s2 h2 => ?_) hs
  obtain ⟨it, fp, tn, J, H2, e, I2, T, st2, f2, W, ⟨m0, w0⟩, turn⟩ := h2
  subst e
  -- what stays true of the iterator's objects through the loop
  have stat : ∀ {H' : Hp}, (∀ b ∈ fp, H' b = none) → ∀ b ∈ fp, FpOk X pins H' b := fun hn b hb => ⟨hn b hb, (f2 b hb).2⟩
  refine codeAny_forLoop_any (fun n s' => ∃ i σ' H', Inv X pins σ' H' s' ∧ tn i s'.heap ∧ (∀ b ∈ fp, H' b = none) ∧ W i n σ' H') ?_ m0 ⟨0, σ, H2, I2, st2, fun b hb => (f2 b hb).1, w0⟩
  rintro n s3 ⟨i, σ3, H3, I3, st3, fr3, w3⟩
  rcases turn i n σ3 H3 w3 with ⟨stop, qn⟩ | ⟨go, N, hN, step⟩
  · refine wpAny_passesOwn hp (thn (T.done X rfl rfl rfl hc i pins s3 σ3 H3 X.xe I3 (stat fr3) st3 stop) fun r s4 ⟨hr, I4⟩ => ?_)
    subst hr
    exact wpAny_execs_nil ⟨σ3, H3, I4, qn⟩
  · refine wpAny_passesOwn hp (thn (T.item X rfl rfl rfl hc i pins s3 σ3 H3 X.xe I3 (stat fr3) st3 go) fun r s4 ⟨u, hr, h4⟩ => ?_)
    subst hr
    refine wpAny_passesOwn hp (thn h4 fun _ s5 ⟨x, H5, I5, r5, y5, st5, fr5⟩ => ?_)
    have I5' := I5.pinned (stat fr5) (T.obj _ _ st5)
    refine wpAny_passesOwn hp (thn (hg _ s5 σ3 H5 x u _ I5' r5 (step x H5 y5)) fun _ s6 ⟨σ6, H6, I6, q6⟩ => ?_)
    refine wpAny_passesOwn hp (thn (hb _ s6 σ6 H6 _ I6 q6) fun f s7 q7 => ?_)
    have again : ∀ {σ7 : St} {H7 : Hp}, Inv X (pins ++ pinsAt fp s5.heap) σ7 H7 s7 → N σ7 H7 → ∃ m, m < n ∧ ∃ i σ' H', Inv X pins σ' H' s7 ∧ tn i s7.heap ∧ (∀ b ∈ fp, H' b = none) ∧ W i m σ' H' := fun {σ7 H7} I7 n7 => by
      obtain ⟨m', hm, w7⟩ := hN σ7 H7 n7
      refine ⟨m', hm, i + 1, σ7, H7, I7.unpinned, T.keep _ _ _ st5 fun b hb o e => (I7.pin (b, o) (List.mem_append_right _ (List.mem_append_right _ (mem_pinsAt hb e)))).1, fun b hb => ?_, w7⟩
      obtain ⟨o, e, d⟩ := T.obj _ _ st5 b hb
      exact (I7.pin (b, o) (List.mem_append_right _ (List.mem_append_right _ (mem_pinsAt hb e)))).2.1
    cases f with
    | next => obtain ⟨σ7, H7, I7, n7⟩ := q7; exact again I7 n7
    | cont => obtain ⟨σ7, H7, I7, n7⟩ := q7; exact again I7 n7
    | brk => obtain ⟨σ7, H7, I7, q7⟩ := q7; exact ⟨σ7, H7, I7.unpinned, q7⟩
    | ret v => obtain ⟨x7, σ7, H7, I7, r7, q7⟩ := q7; exact ⟨x7, σ7, H7, I7.unpinned, r7, q7⟩
end
/-! ### the forms one uses -/
theorem for_list {K : PySem.W.Frag} {a : Addr} {xs : List V} {g : TG} {tb : TS} {D : Ends} {σ : St} {H : Hp} (Pv : Nat → St → Hp → Prop) (h0 : Pv 0 σ H) (hl : ∀ i σ H, i ≤ xs.length → Pv i σ H → SqL K H a xs)
    (hs : ∀ i x σ H, xs[i]? = some x → Pv i σ H → g x σ H fun σ2 H2 => tb { D with nx := Pv (i + 1), ct := Pv (i + 1), bk := D.nx } σ2 H2) (hd : ∀ σ H, Pv xs.length σ H → D.nx σ H) :
    ∃ W : Nat → Nat → St → Hp → Prop, (∃ m, W 0 m σ H) ∧ ∀ i m σ H, W i m σ H →
      ((Itl K a).stop i H ∧ D.nx σ H) ∨ ((Itl K a).go i H ∧ ∃ N : St → Hp → Prop, (∀ σ' H', N σ' H' → ∃ m', m' < m ∧ W (i + 1) m' σ' H') ∧ ∀ x H', (Itl K a).yld i H x H' → g x σ H' fun σ2 H2 => tb { D with nx := N, ct := N, bk := D.nx } σ2 H2) := by
  refine ⟨fun i m σ H => m = xs.length - i ∧ i ≤ xs.length ∧ Pv i σ H, ⟨xs.length, by simp, Nat.zero_le _, h0⟩, ?_⟩
  rintro i m σ H ⟨rfl, hi, p⟩
  have q := hl i σ H hi p
  by_cases hlt : i < xs.length
  · refine .inr ⟨⟨xs, xs[i], q, by simp [hlt]⟩, Pv (i + 1), fun σ' H' p' => ⟨xs.length - (i + 1), by omega, rfl, hlt, p'⟩, fun x H' y => ?_⟩
    obtain ⟨e, y⟩ := y
    subst e
    exact hs i x σ _ (y xs q) p
  · have e : i = xs.length := by omega
    subst e
    exact .inl ⟨⟨xs, q, Nat.le_refl _⟩, hd σ H p⟩
end L2
namespace L2
open PySem PySem.Spec PyProof.Rows
noncomputable abbrev R2 := V → V → Hp → VK → Prop
noncomputable def OpR (X : Cx) (f : Value → Value → Sem Value) (r : R2) : Prop :=
  ∀ (pins : List (Addr × Obj)) (s : Shared) (σ : St) (H : Hp) (x y : V) (v u : Value) (Q : VK), Inv X pins σ H s → RelV x v → RelV y u → r x y H Q →
    wpAny (model X.prog X.w) X.A (f v u) (EP X pins σ Q) X.xe s
noncomputable def UnR (X : Cx) (f : Value → Sem Value) (r : V → Hp → VK → Prop) : Prop :=
  ∀ (pins : List (Addr × Obj)) (s : Shared) (σ : St) (H : Hp) (x : V) (v : Value) (Q : VK), Inv X pins σ H s → RelV x v → r x H Q →
    wpAny (model X.prog X.w) X.A (f v) (EP X pins σ Q) X.xe s
noncomputable def CallR (X : Cx) (f : Value) (r : List V → Hp → VK → Prop) : Prop :=
  ∀ (pins : List (Addr × Obj)) (s : Shared) (σ : St) (H : Hp) (xs : List V) (us : List Value) (Q : VK), Inv X pins σ H s → Vals xs us → r xs H Q →
    wpAny (model X.prog X.w) X.A (call f us) (EP X pins σ Q) X.xe s
noncomputable def TruR (X : Cx) (r : V → Hp → (Bool → Hp → Prop) → Prop) : Prop :=
  ∀ (pins : List (Addr × Obj)) (s : Shared) (σ : St) (H : Hp) (x : V) (v : Value) (Q : Bool → Hp → Prop), Inv X pins σ H s → RelV x v → r x H Q →
    wpAny (model X.prog X.w) X.A (truthy v) (TP X pins σ Q) X.xe s

noncomputable def tOp (r : R2) (ta tb : TE) : TE := fun σ H Q => ta σ H fun x H1 => tb σ H1 fun y H2 => r x y H2 Q
noncomputable def tUn (r : V → Hp → VK → Prop) (ta : TE) : TE := fun σ H Q => ta σ H fun x H1 => r x H1 Q
noncomputable def rI (C : Int → Int → Prop) (g : Int → Int → V) : R2 := fun x y H Q => ∃ i j, x = .int i ∧ y = .int j ∧ C i j ∧ Q (g i j) H
noncomputable def rI0 (g : Int → Int → V) : R2 := fun x y H Q => ∃ i j, x = .int i ∧ y = .int j ∧ Q (g i j) H
noncomputable def rU (g : Int → V) : V → Hp → VK → Prop := fun x H Q => ∃ i, x = .int i ∧ Q (g i) H

section
variable {X : Cx} {a b c : Expr} {ta tb tc : TE} {pos : Pos}
theorem binT (ha : PE X a ta) (hb : PE X b tb) {pins : List (Addr × Obj)} {s : Shared} {σ : St} {H : Hp} {R : V → V → Hp → Prop} (I : Inv X pins σ H s)
    (h : ta σ H fun x H1 => tb σ H1 fun y H2 => R x y H2) {Q : Value → Shared → Prop} {f : Value → Value → Sem Value}
    (hf : ∀ v u s2 x y H2, Inv X pins σ H2 s2 → RelV x v → RelV y u → R x y H2 → wpAny (model X.prog X.w) X.A (f v u) Q X.xe s2) :
    wpAny (model X.prog X.w) X.A (eval a X.env) (fun v s₁ => wpAny (model X.prog X.w) X.A (eval b X.env) (fun u s₂ => wpAny (model X.prog X.w) X.A (f v u) Q X.xe s₂) X.xe s₁) X.xe s := by
  refine thn (ha pins s σ H _ I h) fun v s1 ⟨x, H1, I1, r1, q1⟩ => ?_
  refine thn (hb pins s1 σ H1 _ I1 q1) fun u s2 ⟨y, H2, I2, r2, q2⟩ => ?_
  exact hf v u s2 x y H2 I2 r1 r2 q2

theorem pe_op {op : Operator} {r : R2} (ho : OpR X (binaryOp op) r) (ha : PE X a ta) (hb : PE X b tb) : PE X (.BinOp a op b pos) (tOp r ta tb) := by
  intro pins s σ H Q I h
  exact wpAny_BinOp (binT ha hb I h fun v u s2 x y H2 I2 rx ry q => ho pins s2 σ H2 x y v u Q I2 rx ry q)
theorem pe_un {op : UnaryOp} {r : V → Hp → VK → Prop} (ho : UnR X (unaryOp op) r) (ha : PE X a ta) : PE X (.UnaryOp op a pos) (tUn r ta) := by
  intro pins s σ H Q I h
  exact UnaryOp_ (thn (ha pins s σ H _ I h) fun v s1 ⟨x, H1, I1, r1, q1⟩ => ho pins s1 σ H1 x v Q I1 r1 q1)
/-! ### ints -/
theorem opI {f : Value → Value → Sem Value} {C : Int → Int → Prop} {g : Int → Int → Int}
    (rule : ∀ (i j : Int) (t u : Tok) (s : Shared) (Q : Value → Shared → Prop) (E : Value → Shared → Prop), C i j → Q (.int (g i j) s.toks) { s with toks := s.toks + 1 } → wpAny (model X.prog X.w) X.A (f (.int i t) (.int j u)) Q E s) :
    OpR X f (rI C fun i j => .int (g i j)) := by
  intro pins s σ H x y v u Q I rx ry h
  obtain ⟨i, j, rfl, rfl, hc, q⟩ := h
  obtain ⟨t, rfl⟩ := rx
  obtain ⟨t', rfl⟩ := ry
  exact rule i j t t' s _ _ hc ⟨.int (g i j), H, I.tok _, ⟨_, rfl⟩, q⟩
theorem opI0 {f : Value → Value → Sem Value} {g : Int → Int → Int}
    (rule : ∀ (i j : Int) (t u : Tok) (s : Shared) (Q : Value → Shared → Prop) (E : Value → Shared → Prop), Q (.int (g i j) s.toks) { s with toks := s.toks + 1 } → wpAny (model X.prog X.w) X.A (f (.int i t) (.int j u)) Q E s) :
    OpR X f (rI0 fun i j => .int (g i j)) := by
  intro pins s σ H x y v u Q I rx ry h
  obtain ⟨i, j, rfl, rfl, q⟩ := h
  obtain ⟨t, rfl⟩ := rx
  obtain ⟨t', rfl⟩ := ry
  exact rule i j t t' s _ _ ⟨.int (g i j), H, I.tok _, ⟨_, rfl⟩, q⟩
theorem opB0 {f : Value → Value → Sem Value} {g : Int → Int → Bool}
    (rule : ∀ (i j : Int) (t u : Tok) (s : Shared) (Q : Value → Shared → Prop) (E : Value → Shared → Prop), Q (.bool (g i j)) s → wpAny (model X.prog X.w) X.A (f (.int i t) (.int j u)) Q E s) :
    OpR X f (rI0 fun i j => .bl (g i j)) := by
  intro pins s σ H x y v u Q I rx ry h
  obtain ⟨i, j, rfl, rfl, q⟩ := h
  obtain ⟨t, rfl⟩ := rx
  obtain ⟨t', rfl⟩ := ry
  exact rule i j t t' s _ _ ⟨.bl (g i j), H, I, rfl, q⟩

noncomputable def CDiv (i j : Int) : Prop := 0 < j ∧ j < 1073741824
noncomputable def CMul (i j : Int) : Prop := (-(2 ^ 64) < i ∧ i < 2 ^ 64) ∨ (-(2 ^ 64) < j ∧ j < 2 ^ 64)
theorem CMul.ok {i j : Int} (h : CMul i j) : IntMulOk i j := by
  rcases h with ⟨h1, h2⟩ | ⟨h1, h2⟩
  · exact .of_left (intBits_le_64 h1 h2)
  · exact .of_right (intBits_le_64 h1 h2)
theorem op_add : OpR X (binaryOp .Add) (rI0 fun i j => .int (i + j)) := opI0 fun _ _ _ _ _ _ _ q => add_int q
theorem op_sub : OpR X (binaryOp .Sub) (rI0 fun i j => .int (i - j)) := opI0 fun _ _ _ _ _ _ _ q => sub_int q
theorem op_mul : OpR X (binaryOp .Mult) (rI CMul fun i j => .int (i * j)) := opI fun _ _ _ _ _ _ _ hc q => mul_int q hc.ok
theorem op_fdiv : OpR X (binaryOp .FloorDiv) (rI CDiv fun i j => .int (i / j)) := opI fun i j _ _ _ _ _ hc q => by
  have h1 : (0 : Int) < j := hc.1
  have h2 : j < 1073741824 := hc.2
  exact floordiv_int (by omega) (by rw [Int.fdiv_eq_ediv_of_nonneg i (by omega)]; exact q) (.inl (PyProof.noPylong_small (by omega)))
theorem op_mod : OpR X (binaryOp .Mod) (rI (fun _ j => 0 < j) fun i j => .int (i % j)) := opI fun i j _ _ _ _ _ hc q => by
  have h1 : (0 : Int) < j := hc
  exact mod_int' (by omega) (by rw [Int.fmod_eq_emod_of_nonneg i (by omega)]; exact q)
theorem unI {f : Value → Sem Value} {g : Int → Int}
    (rule : ∀ (i : Int) (t : Tok) (s : Shared) (Q : Value → Shared → Prop) (E : Value → Shared → Prop), Q (.int (g i) s.toks) { s with toks := s.toks + 1 } → wpAny (model X.prog X.w) X.A (f (.int i t)) Q E s) :
    UnR X f (rU fun i => .int (g i)) := by
  intro pins s σ H x v Q I rx h
  obtain ⟨i, rfl, q⟩ := h
  obtain ⟨t, rfl⟩ := rx
  exact rule i t s _ _ ⟨.int (g i), H, I.tok _, ⟨_, rfl⟩, q⟩
theorem un_neg : UnR X (unaryOp .USub) (rU fun i => .int (-i)) := unI fun _ _ _ _ _ q => neg_int q
/-! ### bools among ints: n += (a < b) -/
end
/-! ### comparisons -/
noncomputable def scal : V → V → Bool
  | .non, .non => true | .non, .int _ => true | .int _, .non => true | .non, .bl _ => true | .bl _, .non => true | .non, .str _ => true | .str _, .non => true
  | .int _, .int _ => true | .bl _, .bl _ => true | .str _, .str _ => true | .byt _, .byt _ => true
  | .int _, .str _ => true | .str _, .int _ => true | .bl _, .str _ => true | .str _, .bl _ => true
  | _, _ => false
noncomputable def rEq : R2 := fun x y H Q => scal x y = true ∧ Q (.bl (decide (x = y))) H
noncomputable def rNe : R2 := fun x y H Q => scal x y = true ∧ Q (.bl (!decide (x = y))) H

theorem dec_int {i j : Int} : decide (V.int i = V.int j) = (i == j) := by
  rw [Bool.eq_iff_iff]
  simp
theorem dec_bl {i j : Bool} : decide (V.bl i = V.bl j) = (i == j) := by
  rw [Bool.eq_iff_iff]
  simp
theorem dec_str {i j : Str} : decide (V.str i = V.str j) = (i == j) := by
  rw [Bool.eq_iff_iff]
  simp
theorem dec_byt {i j : Array UInt8} : decide (V.byt i = V.byt j) = (i.toList == j.toList) := by
  rw [Bool.eq_iff_iff]
  cases i
  cases j
  simp

section
variable {X : Cx} {a b c : Expr} {ta tb tc : TE} {pos : Pos}
theorem fin_bl {pins : List (Addr × Obj)} {σ : St} {H : Hp} {s : Shared} {Q : VK} {k k' : Bool} (I : Inv X pins σ H s) (q : Q (.bl k) H) (e : k = k') : EP X pins σ Q (.bool k') s := by
  subst e
  exact ⟨.bl k, H, I, rfl, q⟩
theorem op_eq : OpR X (compareOp .Eq) rEq := by
  intro pins s σ H x y v u Q I rx ry h
  obtain ⟨hs, q⟩ := h
  cases x with
  | non =>
    cases rx
    cases y with
    | non => cases ry; exact PySem.EqNone.eq_none_none (fin_bl I q (by simp))
    | bl j => cases ry; exact PySem.EqNone.eq_none_bool (fin_bl I q (by simp))
    | int j => obtain ⟨t', rfl⟩ := ry; exact PySem.EqNone.eq_none_int (fin_bl I q (by simp))
    | str j => obtain ⟨t', rfl⟩ := ry; exact PySem.EqNone.eq_none_str (fin_bl I q (by simp))
    | _ => exact absurd (show false = true from hs) Bool.false_ne_true
  | bl i =>
    cases rx
    cases y with
    | non => cases ry; exact PySem.EqNone.eq_bool_none (fin_bl I q (by simp))
    | bl j => cases ry; exact eq_bool (fin_bl I q dec_bl)
    | str j => obtain ⟨t', rfl⟩ := ry; exact PySem.EqMixed.eq_bool_str (fin_bl I q (by simp))
    | _ => exact absurd (show false = true from hs) Bool.false_ne_true
  | int i =>
    obtain ⟨t, rfl⟩ := rx
    cases y with
    | non => cases ry; exact PySem.EqNone.eq_int_none (fin_bl I q (by simp))
    | int j => obtain ⟨t', rfl⟩ := ry; exact eq_int (fin_bl I q dec_int)
    | str j => obtain ⟨t', rfl⟩ := ry; exact PySem.EqMixed.eq_int_str (fin_bl I q (by simp))
    | _ => exact absurd (show false = true from hs) Bool.false_ne_true
  | str i =>
    obtain ⟨t, rfl⟩ := rx
    cases y with
    | non => cases ry; exact PySem.EqNone.eq_str_none (fin_bl I q (by simp))
    | bl j => cases ry; exact PySem.EqMixed.eq_str_bool (fin_bl I q (by simp))
    | int j => obtain ⟨t', rfl⟩ := ry; exact PySem.EqMixed.eq_str_int (fin_bl I q (by simp))
    | str j => obtain ⟨t', rfl⟩ := ry; exact eq_str (fin_bl I q dec_str)
    | _ => exact absurd (show false = true from hs) Bool.false_ne_true
  | byt i =>
    obtain ⟨t, rfl⟩ := rx
    cases y with
    | byt j => obtain ⟨t', rfl⟩ := ry; exact PySem.W.eq_bytes (fin_bl I q dec_byt)
    | _ => exact absurd (show false = true from hs) Bool.false_ne_true
  | _ => cases y <;> exact absurd (show false = true from hs) Bool.false_ne_true
theorem op_ne : OpR X (compareOp .NotEq) rNe := by
  intro pins s σ H x y v u Q I rx ry h
  obtain ⟨hs, q⟩ := h
  cases x with
  | non =>
    cases rx
    cases y with
    | non => cases ry; exact PySem.EqNone.ne_none_none (fin_bl I q (by simp))
    | bl j => cases ry; exact PySem.EqNone.ne_none_bool (fin_bl I q (by simp))
    | int j => obtain ⟨t', rfl⟩ := ry; exact PySem.EqNone.ne_none_int (fin_bl I q (by simp))
    | str j => obtain ⟨t', rfl⟩ := ry; exact PySem.EqNone.ne_none_str (fin_bl I q (by simp))
    | _ => exact absurd (show false = true from hs) Bool.false_ne_true
  | bl i =>
    cases rx
    cases y with
    | non => cases ry; exact PySem.EqNone.ne_bool_none (fin_bl I q (by simp))
    | bl j => cases ry; exact ne_bool (fin_bl I q (congrArg not dec_bl))
    | str j => obtain ⟨t', rfl⟩ := ry; exact PySem.EqMixed.ne_bool_str (fin_bl I q (by simp))
    | _ => exact absurd (show false = true from hs) Bool.false_ne_true
  | int i =>
    obtain ⟨t, rfl⟩ := rx
    cases y with
    | non => cases ry; exact PySem.EqNone.ne_int_none (fin_bl I q (by simp))
    | int j => obtain ⟨t', rfl⟩ := ry; exact ne_int (fin_bl I q (congrArg not dec_int))
    | str j => obtain ⟨t', rfl⟩ := ry; exact PySem.EqMixed.ne_int_str (fin_bl I q (by simp))
    | _ => exact absurd (show false = true from hs) Bool.false_ne_true
  | str i =>
    obtain ⟨t, rfl⟩ := rx
    cases y with
    | non => cases ry; exact PySem.EqNone.ne_str_none (fin_bl I q (by simp))
    | bl j => cases ry; exact PySem.EqMixed.ne_str_bool (fin_bl I q (by simp))
    | int j => obtain ⟨t', rfl⟩ := ry; exact PySem.EqMixed.ne_str_int (fin_bl I q (by simp))
    | str j => obtain ⟨t', rfl⟩ := ry; exact ne_str (fin_bl I q (congrArg not dec_str))
    | _ => exact absurd (show false = true from hs) Bool.false_ne_true
  | byt i =>
    obtain ⟨t, rfl⟩ := rx
    cases y with
    | byt j => obtain ⟨t', rfl⟩ := ry; exact PySem.W.ne_bytes (fin_bl I q (congrArg not dec_byt))
    | _ => exact absurd (show false = true from hs) Bool.false_ne_true
  | _ => cases y <;> exact absurd (show false = true from hs) Bool.false_ne_true

theorem op_lt : OpR X (compareOp .Lt) (rI0 fun i j => .bl (decide (i < j))) := opB0 fun _ _ _ _ _ _ _ q => lt_int q
theorem op_le : OpR X (compareOp .LtE) (rI0 fun i j => .bl (decide (i ≤ j))) := opB0 fun _ _ _ _ _ _ _ q => le_int q
theorem op_gt : OpR X (compareOp .Gt) (rI0 fun i j => .bl (decide (j < i))) := opB0 fun _ _ _ _ _ _ _ q => gt_int q
theorem op_in_str : OpR X (compareOp .In) (fun x y H Q => ∃ i j, x = .str i ∧ y = .str j ∧ Q (.bl (!(Builtin.Str.occurrences j i 0 j.length 1).isEmpty)) H) := by
  intro pins s σ H x y v u Q I rx ry h
  obtain ⟨i, j, rfl, rfl, q⟩ := h
  obtain ⟨t, rfl⟩ := rx
  obtain ⟨t', rfl⟩ := ry
  exact in_str (fin_bl I q rfl)

theorem OpR.or {f : Value → Value → Sem Value} {r r' : R2} (h : OpR X f r) (h' : OpR X f r') : OpR X f (fun x y H Q => r x y H Q ∨ r' x y H Q) := by
  intro pins s σ H x y v u Q I rx ry q
  rcases q with q | q
  · exact h pins s σ H x y v u Q I rx ry q
  · exact h' pins s σ H x y v u Q I rx ry q

theorem nomark (b : Expr) {op : CmpOp} (h : op ≠ .In := by decide) (h2 : op ≠ .NotIn := by decide) : behindInMarks op b = false := by
  have e1 : (op == CmpOp.In) = false := by cases op <;> first | rfl | exact absurd rfl h
  have e2 : (op == CmpOp.NotIn) = false := by cases op <;> first | rfl | exact absurd rfl h2
  cases b <;> simp [behindInMarks, e1, e2]
theorem pe_cmpR {op : CmpOp} {r : R2} (ho : OpR X (compareOp op) r) (ha : PE X a ta) (hb : PE X b tb) (hm : behindInMarks op b = false) : PE X (.Compare a [op] [b] pos) (tOp r ta tb) := by
  intro pins s σ H Q I h
  exact wpAny_Compare1 (binT ha hb I h fun v u s2 x y H2 I2 rx ry q => ho pins s2 σ H2 x y v u Q I2 rx ry q) hm
noncomputable def tTest (t : TE) : TT := fun σ H Q => t σ H fun x H' => ∃ k, x = .bl k ∧ Q k H'
theorem pt_cmpR {op : CmpOp} {r : R2} (ho : OpR X (compareOp op) r) (ha : PE X a ta) (hb : PE X b tb) (hm : behindInMarks op b = false) : PT X (.Compare a [op] [b] pos) (tTest (tOp r ta tb)) := by
  intro pins s σ H Q I h
  refine wpAny_isTrue_Compare1 (thn (ha pins s σ H _ I h) fun v s1 ⟨x, H1, I1, r1, q1⟩ => thn (hb pins s1 σ H1 _ I1 q1) fun u s2 ⟨y, H2, I2, r2, q2⟩ =>
    thn (ho pins s2 σ H2 x y v u _ I2 r1 r2 q2) fun c s3 ⟨z, H3, I3, r3, k, e, q3⟩ => ?_) hm
  subst e
  cases r3
  exact wpAny_truthy_bool ⟨H3, I3, q3⟩
noncomputable def tChain (r r' : R2) (ta tb tc : TE) : TE := fun σ H Q => ta σ H fun x H1 => tb σ H1 fun y H2 => r x y H2 fun z H3 => ∃ k, z = .bl k ∧
  (if k = true then tc σ H3 fun w' H4 => r' y w' H4 Q else Q (.bl false) H3)
theorem pe_chain {op op' : CmpOp} {r r' : R2} (ho : OpR X (compareOp op) r) (ho' : OpR X (compareOp op') r') (ha : PE X a ta) (hb : PE X b tb) (hc : PE X c tc)
    (hm : lastMarks [op, op'] [b, c] = false := by with_unfolding_all rfl) : PE X (.Compare a [op, op'] [b, c] pos) (tChain r r' ta tb tc) := by
  intro pins s σ H Q I h
  refine Compare_chain (thn (ha pins s σ H _ I h) fun v s1 ⟨x, H1, I1, r1, q1⟩ => chain_link (thn (hb pins s1 σ H1 _ I1 q1) fun u s2 ⟨y, H2, I2, r2, q2⟩ =>
    thn (ho pins s2 σ H2 x y v u _ I2 r1 r2 q2) fun d s3 ⟨z, H3, I3, r3, k, e, q3⟩ => ?_)) hm
  subst e
  cases r3
  refine wpAny_truthy_bool ?_
  cases k with
  | false => exact ite_ff ⟨.bl false, H3, I3, rfl, q3⟩
  | true => exact ite_tt (chain_last (thn (hc pins s3 σ H3 _ I3 q3) fun w' s4 ⟨z', H4, I4, r4, q4⟩ => ho' pins s4 σ H4 y z' u w' Q I4 r2 r4 q4))
/-! ### truth -/
noncomputable def TruV (K : PySem.W.Frag) (x : V) (H : Hp) (k : Bool) : Prop :=
  match x with
  | .non => k = false
  | .bl b => k = b
  | .int i => k = (i != 0)
  | .str y => y.length ≤ sizeLine ∧ k = ((y.length : Int) != 0)
  | .byt y => y.size ≤ sizeLine ∧ k = ((y.size : Int) != 0)
  | .ref p => (∃ xs, SqL K H p xs ∧ k = !xs.isEmpty) ∨ (∃ xs, SqT K H p xs ∧ k = !xs.isEmpty) ∨ ∃ kvs, H p = some (.dK kvs) ∧ k = !kvs.isEmpty
  | _ => False
theorem isEmpty_kv {κ : Type} {kvs : List (κ × V)} {vs : List (κ × Value)} (r : KV kvs vs) : (!vs.isEmpty) = !kvs.isEmpty := by
  cases r <;> rfl
theorem isEmpty_of {xs : List V} {its : List Value} (r : Vals xs its) : (!its.toArray.isEmpty) = !xs.isEmpty := by
  cases r <;> simp
theorem line63 : (sizeLine : Nat) < 2 ^ 63 := by rw [sizeLine_eq]; decide
theorem tru_ok : TruR X (fun x H Q => ∃ k, TruV X.K x H k ∧ Q k H) := by
  intro pins s σ H x v Q I rx h
  obtain ⟨k, e, q⟩ := h
  have hl := line63
  have hs : sizeLine = 16777216 := sizeLine_eq
  cases x with
  | non =>
    cases rx
    have e' : k = false := e
    subst e'
    exact truthy_none ⟨H, I, q⟩
  | bl b =>
    cases rx
    have e' : k = b := e
    subst e'
    exact wpAny_truthy_bool ⟨H, I, q⟩
  | int i =>
    obtain ⟨t, rfl⟩ := rx
    have e' : k = (i != 0) := e
    subst e'
    exact PySem.P.truthy_int ⟨H, I, q⟩
  | str y =>
    obtain ⟨t, rfl⟩ := rx
    obtain ⟨hy, e'⟩ : y.length ≤ sizeLine ∧ k = ((y.length : Int) != 0) := e
    subst e'
    exact PySem.P.truthy_str (by omega) ⟨H, I.tok _, q⟩
  | byt y =>
    obtain ⟨t, rfl⟩ := rx
    obtain ⟨hy, e'⟩ : y.size ≤ sizeLine ∧ k = ((y.size : Int) != 0) := e
    subst e'
    exact PySem.W.truthy_bytes (by omega) ⟨H, I.tok _, q⟩
  | ref p =>
    cases rx
    have e' : (∃ xs, SqL X.K H p xs ∧ k = !xs.isEmpty) ∨ (∃ xs, SqT X.K H p xs ∧ k = !xs.isEmpty) ∨ ∃ kvs, H p = some (.dK kvs) ∧ k = !kvs.isEmpty := e
    rcases e' with ⟨xs, hx, e'⟩ | ⟨xs, hx, e'⟩ | ⟨kvs, hx, e'⟩
    · subst e'
      obtain ⟨its, r, pl, hz⟩ := I.list hx
      have hlen := r.length
      exact wpAny_truthy_list pl.isList (by simp only [List.size_toArray]; omega) ⟨H, I.tok _, by rw [isEmpty_of r]; exact q⟩
    · subst e'
      obtain ⟨its, r, pl, hz⟩ := I.tuple hx
      have hlen := r.length
      exact truthy_tuple pl (by simp only [List.size_toArray]; omega) ⟨H, I.tok _, by rw [isEmpty_of r]; exact q⟩
    · subst e'
      obtain ⟨hz, hS, vs, r, m⟩ : kvs.length ≤ sizeLine ∧ (p == sysModules) = false ∧ ∃ vs, KV kvs vs ∧ s.heap.DictOf (mixKind X.prog X.w) p vs := I.hok p _ hx
      have hlen : kvs.length = vs.length := Paired.length r
      exact wpAny_truthy_dict hS m (by omega) ⟨H, I.tok _, by rw [isEmpty_kv r]; exact q⟩
  | _ => exact (show False from e).elim
theorem pt_truth (ha : PE X a ta) (he : ∀ whole, isTrue a X.env whole = (do let v ← whole; standAt a.pos; holding [v] (truthy v))) :
    PT X a (fun σ H Q => ta σ H fun x H' => ∃ k, TruV X.K x H' k ∧ Q k H') := by
  intro pins s σ H Q I h
  exact isTrue_plain (thn (ha pins s σ H _ I h) fun v s1 ⟨x, H1, I1, r1, q1⟩ => tru_ok pins s1 σ H1 x v Q I1 r1 q1) (he _)

/-! ### strs and bytes -/
theorem op_add_str : OpR X (binaryOp .Add) (fun x y H Q => ∃ i j, x = .str i ∧ y = .str j ∧ i.length + j.length ≤ sizeLine ∧ Q (.str (i ++ j)) H) := by
  intro pins s σ H x y v u Q I rx ry h
  obtain ⟨i, j, rfl, rfl, hz, q⟩ := h
  obtain ⟨t, rfl⟩ := rx
  obtain ⟨t', rfl⟩ := ry
  exact add_str (fun t' tk => ⟨.str (i ++ j), H, I.tok _, ⟨_, rfl⟩, q⟩) hz
/-! ### scalar builtins, by CallR -/
theorem vals1 {x : V} {us : List Value} (r : Vals [x] us) : ∃ u, us = [u] ∧ RelV x u := by
  cases r with
  | cons r1 r2 => cases r2; exact ⟨_, rfl, r1⟩
theorem call_int1 : CallR X (.type "int") (fun xs H Q => (∃ i, xs = [.int i] ∧ Q (.int i) H) ∨ ∃ k, xs = [.bl k] ∧ Q (.int (if k then 1 else 0)) H) := by
  intro pins s σ H xs us Q I r h
  rcases h with ⟨i, rfl, q⟩ | ⟨k, rfl, q⟩
  · obtain ⟨u, rfl, t, rfl⟩ := vals1 r
    exact call_int_int ⟨.int i, H, I, ⟨_, rfl⟩, q⟩
  · obtain ⟨u, rfl, r1⟩ := vals1 r
    cases r1
    exact call_int_bool ⟨.int (if k then 1 else 0), H, I.tok _, ⟨_, rfl⟩, q⟩
end
end L2
namespace L2
open PySem PySem.Spec PyProof.Rows
/-! ### an instance, its attributes a map -/
structure ObjM (h : Heap) (x dx C : Addr) (mA : Str → Option Value) : Prop where
  obj : h.get? x = some (PySem.W.instObj C dx)
  ns : h.Ns1 dx mA
  ne : dx ≠ x

theorem lookIn_ns {h : Heap} {dx : Addr} {mA : Str → Option Value} (n : h.Ns1 dx mA) : ∃ od, h.get? dx = some od ∧ ∀ name, PySem.W.lookIn name od = some (mA name) := by
  obtain ⟨o, es, ep, ho, hd, hk, _, hm⟩ := n
  refine ⟨o, ho, fun name => ?_⟩
  have e := hm name
  unfold nsFind findBy at e
  rw [← Array.find?_toList] at e
  unfold PySem.W.lookIn
  rw [hd]
  dsimp only
  split
  · rename_i y q
    rw [q] at e
    exact congrArg some e
  · rename_i q
    rw [q] at e
    have a : es.toList.any (·.refKey) = false := by
      rw [List.any_eq_false]
      intro y hy
      obtain ⟨z, t, hkey⟩ := hk y (Array.mem_toList_iff.mp hy)
      simp [DictEntry.refKey, hkey]
    have a' : ¬ es.toList.any (·.refKey) = true := by rw [a]; exact Bool.false_ne_true
    rw [if_neg a']
    exact congrArg some e

theorem ObjM.look {h : Heap} {x dx C : Addr} {mA : Str → Option Value} (I : ObjM h x dx C mA) : ∃ od, PySem.W.InstAt h x (PySem.W.instObj C dx) C (some od) ∧ ∀ name, PySem.W.lookIn name od = some (mA name) :=
  let ⟨od, ho, hl⟩ := lookIn_ns I.ns
  ⟨od, ⟨I.obj, rfl, rfl, ho⟩, hl⟩

section
variable {prog : Program} {w : World} {A : Around} {E : Value → Shared → Prop} {s : Shared} {K : PySem.W.Frag} {x dx C f : Addr} {mA : Str → Option Value} {name : Str} {v : Value}
theorem get_map {expr : Bool} {Q : Value → Shared → Prop} (X : K.In s.heap) (I : ObjM s.heap x dx C mA) (hg : PySem.W.plainGet K C name = true) (hh : PySem.W.hasDictIn K C = true)
    (ha : PySem.W.findIn K (.ref C) name = some none) (hv : mA name = some v) (hv' : PySem.W.handedIn v = true) (h : Q v { s with toks := s.toks + 1 }) :
    wpAny (model prog w) A (getAttr (.ref x) name expr) Q E s := by
  obtain ⟨od, J, hl⟩ := I.look
  exact PySem.W.get_value X J (PySem.W.plainGet_of hg).1 (PySem.W.findObj_own hh ha rfl (by rw [hl, hv])) hv' h

theorem get_meth {pl : Sem Bool} {Q : Value × List Value → Shared → Prop} (X : K.In s.heap) (I : ObjM s.heap x dx C mA) (hg : PySem.W.plainGet K C name = true)
    (hf : PySem.W.findIn K (.ref C) name = some (some (.ref f))) (ht : PySem.W.isFn K (.ref f) = true) (hv : mA name = none) (h : Q (.ref f, [.ref x]) s) :
    wpAny (model prog w) A (getMethod (.ref x) name pl) Q E s := by
  obtain ⟨od, J, hl⟩ := I.look
  exact PySem.W.method_fn X J (PySem.W.plainGet_of hg).1 (PySem.W.plainGet_of hg).2 hf (beq_iff_eq.mp ht) (by show (PySem.W.lookIn name od).map (·.isSome) = some false; rw [hl, hv]; rfl) h

theorem set_map {ns : List Str} {Q : Unit → Shared → Prop} (X : K.In s.heap) (I : ObjM s.heap x dx C mA)
    (hs : PySem.W.findIn K (.ref C) "__setattr__" = some (some (.builtin "object.__setattr__"))) (hp : PySem.W.plainOver K C = true) (ht : PySem.W.takerIn K C name = some none) (hh : PySem.W.hasDictIn K C = true)
    (hw : PySem.Within mA ns) (hsz : ns.length ≤ sizeLine)
    (h : ∀ h', ObjM h' x dx C (fun y => if y = name then some v else mA y) → Heap.SameBut dx s.heap h' → Q () { s with heap := h', toks := s.toks + 2 }) :
    wpAny (model prog w) A (setAttr (.ref x) name v) Q E s := by
  obtain ⟨od, J, hl⟩ := I.look
  refine PySem.W.set_plain X J hs (PySem.W.osa_open (s := { s with toks := s.toks + 1 }) (r := none) X J hp ht fun b => ?_)
  obtain ⟨cd, hc, hd'⟩ := PySem.W.any_some hh
  have hx : s.heap.get? x = some ⟨.ref C, some dx, .plain, #[]⟩ := I.obj
  refine wpAny_bind (wpAny_pure (wpAny_bind (wpAny_bind (wpAny_loadPart hx (wpAny_bind (PySem.W.Looks.here (s := { s with toks := s.toks + 1 }) (PySem.W.looks_clsIn X hc) ?_))))))
  rw [hd']
  refine wpAny_pure (a := some dx) (wpAny_bind (wpAny_pure (wpAny_bind ?_)))
  refine wpAny_nsSet1 (s := { s with toks := s.toks + 1 }) I.ns fun h' hn2 hs2 => ?_
  obtain ⟨oD, esD, epD, hoD, hdD, hcD⟩ := hn2.count (PySem.Within.cons name v hw)
  refine wpAny_bind (wpAny_lookBehind hoD (by rw [hdD]; exact pastItsLine_dict (Nat.le_trans hcD (by rw [List.length_cons]; omega))) ?_)
  exact wpAny_pure (h _ ⟨(hs2.2 _ (Ne.symm I.ne)).trans I.obj, hn2, I.ne⟩ hs2)

theorem make_map {R : Result → Shared → Prop} {vs : List Value} {kw : List (Str × Value)} (X : K.In s.heap) (hm : PySem.W.makesIn K C = true)
    (hi : PySem.W.findIn K (.ref C) "__init__" = some (some (.ref f))) (hf : PySem.W.typeIn K (.ref f) = some (.type "function"))
    (h : codeAny (model prog w) (A.under (.builtin "type.__call__" ⟨.ref C :: vs, kw⟩)) (.call (.ref f) ⟨.ref (s.heap.objs.size + 1) :: vs, kw⟩) (PySem.W.InitBack (s.heap.objs.size + 1) R)
      { s with heap := (s.heap.push PySem.W.emptyDict).push (PySem.W.instObj C s.heap.objs.size) }) :
    codeAny (model prog w) A (.call (.ref C) ⟨vs, kw⟩) R s := by
  obtain ⟨hh, g, d, t, os⟩ := s
  exact PySem.W.make_core (PySem.W.makes_of X hm) (PySem.W.looks_findIn X hi) (fun self => PySem.W.bind_fn X self hf) (.inl rfl) h
end
/-! ### the attributes as a list of pairs -/
noncomputable def putF (f : Str) (v : V) : List (Str × V) → List (Str × V)
  | [] => [(f, v)]
  | (g, x) :: r => if g = f then (g, v) :: r else (g, x) :: putF f v r
theorem lookup_putF (f g : Str) (v : V) : ∀ fs : List (Str × V), (putF f v fs).lookup g = if g = f then some v else fs.lookup g
  | [] => by
    show List.lookup g [(f, v)] = _
    by_cases h : g = f
    · have hb : (g == f) = true := beq_iff_eq.mpr h
      simp only [List.lookup, hb, if_pos h]
    · have hb : (g == f) = false := beq_eq_false_iff_ne.mpr h
      simp only [List.lookup, hb, if_neg h]
  | (k, x) :: r => by
    have ih := lookup_putF f g v r
    rw [show putF f v ((k, x) :: r) = (if k = f then (k, v) :: r else (k, x) :: putF f v r) from rfl]
    by_cases hk : k = f
    · rw [if_pos hk]
      by_cases h : g = k
      · have hb : (g == k) = true := beq_iff_eq.mpr h
        simp only [List.lookup, hb, if_pos (h.trans hk)]
      · have hb : (g == k) = false := beq_eq_false_iff_ne.mpr h
        simp only [List.lookup, hb, if_neg (fun e : g = f => h (e.trans hk.symm))]
    · rw [if_neg hk]
      by_cases h : g = k
      · have hb : (g == k) = true := beq_iff_eq.mpr h
        simp only [List.lookup, hb, if_neg (fun e : g = f => hk (h.symm.trans e))]
      · have hb : (g == k) = false := beq_eq_false_iff_ne.mpr h
        simp only [List.lookup, hb]
        exact ih
theorem keys_putF (f : Str) (v : V) : ∀ fs : List (Str × V), f ∈ (putF f v fs).map (·.1) ∧ ∀ g, g ∈ fs.map (·.1) → g ∈ (putF f v fs).map (·.1)
  | [] => ⟨by simp [putF], fun g h => by simp at h⟩
  | (k, x) :: r => by
    obtain ⟨i1, i2⟩ := keys_putF f v r
    rw [show putF f v ((k, x) :: r) = (if k = f then (k, v) :: r else (k, x) :: putF f v r) from rfl]
    by_cases hk : k = f
    · rw [if_pos hk]
      subst hk
      exact ⟨by simp, fun g h => by simpa using h⟩
    · rw [if_neg hk]
      refine ⟨?_, fun g h => ?_⟩
      · rw [List.map_cons]
        exact List.mem_cons_of_mem _ i1
      · rw [List.map_cons] at h ⊢
        rcases List.mem_cons.mp h with e | e
        · exact List.mem_cons.mpr (.inl e)
        · exact List.mem_cons_of_mem _ (i2 g e)
theorem length_putF (f : Str) (v : V) : ∀ fs : List (Str × V), (putF f v fs).length ≤ fs.length + 1
  | [] => by simp [putF]
  | (k, x) :: r => by
    have ih := length_putF f v r
    rw [show putF f v ((k, x) :: r) = (if k = f then (k, v) :: r else (k, x) :: putF f v r) from rfl]
    by_cases hk : k = f
    · rw [if_pos hk, List.length_cons, List.length_cons]; omega
    · rw [if_neg hk, List.length_cons, List.length_cons]; omega

theorem RelO.some_of {v : V} {o : Option Value} (r : RelO (some v) o) : ∃ u, o = some u ∧ RelV v u := by
  cases o with
  | none => exact (show False from r).elim
  | some u => exact ⟨u, rfl, r⟩
theorem RelO.none_of {o : Option Value} (r : RelO none o) : o = none := by
  cases o with
  | none => rfl
  | some u => exact (show False from r).elim
theorem handed_of {v : V} {u : Value} (r : RelV v u) : PySem.W.handedIn u = true := by
  cases v with
  | non => cases (show u = Value.none from r); rfl
  | bl b => cases (show u = Value.bool b from r); rfl
  | int i => obtain ⟨t, e⟩ := (show ∃ t, u = Value.int i t from r); cases e; rfl
  | str x => obtain ⟨t, e⟩ := (show ∃ t, u = Value.str x t from r); cases e; rfl
  | byt b => obtain ⟨t, e⟩ := (show ∃ t, u = Value.bytes b t from r); cases e; rfl
  | flt b => obtain ⟨t, e⟩ := (show ∃ t, u = Value.float b t from r); cases e; rfl
  | ref a => cases (show u = Value.ref a from r); rfl
  | ty n => cases (show u = Value.type n from r); rfl

section
variable {P : Program} {w : World} {H H' : Hp} {h h' : Heap} {a C dx : Addr} {fs fs' : List (Str × V)}
theorem ins_get (hok : HOk P w H h) (e : H a = some (.ins C dx fs)) : ∃ mA, ObjM h a dx C mA ∧ (∀ f, RelO (fs.lookup f) (mA f)) ∧ PySem.Within mA (fs.map (·.1)) ∧ fs.length ≤ 1000 ∧ H dx = some (.own a) := by
  obtain ⟨d, z, ne, ob, mA, n, r, q⟩ := (show ObjOk P w H h a (.ins C dx fs) from hok a _ e)
  exact ⟨mA, ⟨ob, n, ne⟩, r, q, z, d⟩
end
/-! ### what of the text a class must have -/
structure Cls (K : PySem.W.Frag) (C : Addr) : Prop where
  pg : PySem.W.plainGet K C Str.empty = true
  hd : PySem.W.hasDictIn K C = true
  po : PySem.W.plainOver K C = true
  sa : PySem.W.findIn K (.ref C) "__setattr__" = some (some (.builtin "object.__setattr__"))
theorem Cls.get {K : PySem.W.Frag} {C : Addr} (c : Cls K C) (f : Str) : PySem.W.plainGet K C f = true := c.pg
noncomputable def NoAttr (K : PySem.W.Frag) (C : Addr) (f : Str) : Prop := PySem.W.findIn K (.ref C) f = some none
theorem NoAttr.taker {K : PySem.W.Frag} {C : Addr} {f : Str} (n : NoAttr K C f) : PySem.W.takerIn K C f = some none := by
  unfold PySem.W.takerIn
  rw [show PySem.W.findIn K (.ref C) f = some none from n]
  rfl
structure Meth (K : PySem.W.Frag) (C : Addr) (m : Str) (f : Addr) : Prop where
  at_ : PySem.W.findIn K (.ref C) m = some (some (.ref f))
  fn : PySem.W.isFn K (.ref f) = true
  kp : PySem.W.keepIn K (.ref f) = true

section
variable {X : Cx} {pins : List (Addr × Obj)} {σ : St} {H : Hp} {s : Shared} {a C dx : Addr} {fs : List (Str × V)} {f : Str} {v : V} {A : Around} {E : Value → Shared → Prop}
theorem getattr_ok {b : Bool} {Q : Value → Shared → Prop} (I : Inv X pins σ H s) (e : H a = some (.ins C dx fs)) (c : Cls X.K C) (n : NoAttr X.K C f) (l : fs.lookup f = some v)
    (h : ∀ u s', Inv X pins σ H s' → RelV v u → Q u s') : wpAny (model X.prog X.w) A (getAttr (.ref a) f b) Q E s := by
  obtain ⟨mA, O, r, _, _, _⟩ := ins_get I.hok e
  obtain ⟨u, hu, ru⟩ := RelO.some_of (v := v) (o := mA f) (by rw [← l]; exact r f)
  exact get_map I.kIn O (c.get f) c.hd n hu (handed_of ru) (h u _ (I.tok _) ru)

theorem getmeth_ok {m : Str} {g : Addr} {pl : Sem Bool} {Q : Value × List Value → Shared → Prop} (I : Inv X pins σ H s) (e : H a = some (.ins C dx fs)) (c : Cls X.K C) (k : Meth X.K C m g) (l : fs.lookup m = none)
    (h : Q (.ref g, [.ref a]) s) : wpAny (model X.prog X.w) A (getMethod (.ref a) m pl) Q E s := by
  obtain ⟨mA, O, r, _, _, _⟩ := ins_get I.hok e
  have hn : mA m = none := RelO.none_of (by rw [← l]; exact r m)
  exact get_meth I.kIn O (c.get m) k.at_ k.fn hn h

theorem setattr_ok {y : V} {u : Value} {Q : Unit → Shared → Prop} (I : Inv X pins σ H s) (e : H a = some (.ins C dx fs)) (c : Cls X.K C) (n : NoAttr X.K C f) (hl : fs.length < 1000) (ry : RelV y u)
    (h : ∀ s', Inv X pins σ (upd H a (.ins C dx (putF f y fs))) s' → Q () s') : wpAny (model X.prog X.w) A (setAttr (.ref a) f u) Q E s := by
  obtain ⟨mA, O, r, wi, _, ho⟩ := ins_get I.hok e
  have hz : (fs.map (·.1)).length ≤ sizeLine := by rw [List.length_map, sizeLine_eq]; omega
  refine set_map I.kIn O c.sa c.po n.taker c.hd wi hz fun h' O' sb => h _ ?_
  have hd : ∃ o, h'.get? dx = some o := let ⟨o, _, _, e', _⟩ := O'.ns; ⟨o, e'⟩
  refine I.write (x := a) (e := dx) (by rw [e]; exact True.intro) (.inr ho) (fun b q hb z => (sb.2 b hb).trans z) hd ?_
  refine ⟨by rw [upd_ne O.ne]; exact ho, ?_, O.ne, O'.obj, _, O'.ns, fun g => ?_, fun g hg => ?_⟩
  · have := length_putF f y fs; omega
  · show RelO ((putF f y fs).lookup g) (if g = f then some u else mA g)
    rw [lookup_putF]
    by_cases q : g = f
    · rw [if_pos q, if_pos q]; exact ry
    · rw [if_neg q, if_neg q]; exact r g
  · by_cases q : g = f
    · rw [q]; exact (keys_putF f y fs).1
    · refine (keys_putF f y fs).2 g (wi g fun z => hg ?_)
      show (if g = f then some u else mA g) = none
      rw [if_neg q]; exact z

theorem Inv.made (I : Inv X pins σ H s) : Inv X pins σ (upd (upd H s.heap.objs.size (.own (s.heap.objs.size + 1))) (s.heap.objs.size + 1) (.ins C s.heap.objs.size []))
    { s with heap := (s.heap.push PySem.W.emptyDict).push (PySem.W.instObj C s.heap.objs.size) } := by
  have e1 : (s.heap.push PySem.W.emptyDict).get? s.heap.objs.size = some PySem.W.emptyDict := Heap.get?_push_size s.heap rfl
  have e2 : ((s.heap.push PySem.W.emptyDict).push (PySem.W.instObj C s.heap.objs.size)).get? (s.heap.objs.size + 1) = some (PySem.W.instObj C s.heap.objs.size) := by
    have := Heap.get?_push_size (s.heap.push PySem.W.emptyDict) (o := PySem.W.instObj C s.heap.objs.size) rfl
    rwa [Heap.size_push] at this
  have e3 : (s.heap.push PySem.W.emptyDict).Ns s.heap.objs.size (fun _ => none) := ⟨PySem.W.emptyDict, #[], _, e1, rfl, (fun e he => absurd he (by simp)), fun _ => rfl⟩
  have I1 := I.laid (a := s.heap.objs.size) (o := .own (s.heap.objs.size + 1)) (h' := s.heap.push PySem.W.emptyDict) (t' := s.toks) (fun b u q => Heap.get?_push_of_some _ q) (Nat.le_refl _) ⟨_, e1⟩
  refine I1.laid (a := s.heap.objs.size + 1) (o := .ins C s.heap.objs.size []) (t' := s.toks) (fun b u q => Heap.get?_push_of_some _ q) (Nat.le_of_eq (Heap.size_push _ _)) ?_
  have ne : s.heap.objs.size ≠ s.heap.objs.size + 1 := Nat.ne_of_lt (Nat.lt_succ_self _)
  refine ⟨by rw [upd_ne ne, upd_same], Nat.zero_le _, ne, e2, fun _ => none, (Heap.Ns1.of_empty e3).at fun o q => Heap.get?_push_of_some _ q, fun _ => True.intro, fun y hy => absurd rfl hy⟩

theorem attr_of {prog : Program} {w : World} {env : Env} {e : Expr} {f : Str} {pos : Pos} {s : Shared} {Q : Value → Shared → Prop} (hb : attributeBase e f env (eval e env) = eval e env)
    (h : wpAny (model prog w) A (eval e env) (fun o s₁ => wpAny (model prog w) A (getAttr o f true) Q E s₁) E s) : wpAny (model prog w) A (eval (.Attribute e f pos) env) Q E s :=
  Attribute_any_ h (by rw [arm_eval_Attribute, hb])
end
/-! ### readings and rules -/
noncomputable def tFld (K : PySem.W.Frag) (ta : TE) (f : Str) : TE := fun σ H Q => ta σ H fun x H1 => ∃ a C dx fs v, x = .ref a ∧ H1 a = some (.ins C dx fs) ∧ Cls K C ∧ NoAttr K C f ∧ fs.lookup f = some v ∧ Q v H1
noncomputable def sFld (K : PySem.W.Frag) (ta tv : TE) (f : Str) : TS := fun D σ H => tv σ H fun y H1 => ta σ H1 fun x H2 => ∃ a C dx fs, x = .ref a ∧ H2 a = some (.ins C dx fs) ∧ Cls K C ∧ NoAttr K C f ∧ fs.length < 1000 ∧
  D.nx σ (upd H2 a (.ins C dx (putF f y fs)))
section
variable {X : Cx} {o e value : Expr} {f : Str} {pos pos' tpos : Pos} {ta tv : TE}
theorem pe_fld (he : PE X e ta) (hb : attributeBase e f X.env (eval e X.env) = eval e X.env) : PE X (.Attribute e f pos) (tFld X.K ta f) := by
  intro pins s σ H Q I h
  refine attr_of hb (thn (he pins s σ H _ I h) fun u s1 ⟨x, H1, I1, rx, a, C, dx, fs, v, ex, ea, c, n, l, q⟩ => ?_)
  subst ex
  obtain rfl : u = Value.ref a := rx
  exact getattr_ok I1 ea c n l fun u' s2 I2 ru => ⟨v, H1, I2, ru, q⟩
theorem ps_fld (ha : PE X o ta) (hv : PE X value tv) (hs : swapsWith value (some (.Attribute o f pos')) pos.line X.env = pure false) : PS X (.Assign [.Attribute o f pos'] value pos) (sFld X.K ta tv f) := by
  intro pins s σ H D I h
  refine plainObj_wpAny_Assign_Attribute (thn (hv pins s σ H _ I h) fun u s1 ⟨y, H1, I1, ry, q⟩ => thn (ha pins s1 σ H1 _ I1 q) fun ov s2 ⟨x, H2, I2, rx, a, C, dx, fs, ex, ea, c, n, l, q2⟩ => ?_) hs
  subst ex
  obtain rfl : ov = Value.ref a := rx
  exact setattr_ok I2 ea c n l ry fun s3 I3 => ⟨σ, _, I3, q2⟩
theorem methcall_of {pl : Sem Bool} {m : Str} {apos : Pos} {args : List Expr} {pins : List (Addr × Obj)} {s : Shared} {σ : St} {H : Hp} {Q : Value → Shared → Prop} {te : TE} (he : PE X e te) (I : Inv X pins σ H s)
    (h : te σ H fun x H1 => ∃ a C dx fs g, x = .ref a ∧ H1 a = some (.ins C dx fs) ∧ Cls X.K C ∧ Meth X.K C m g ∧ fs.lookup m = none ∧
      ∀ s1, Inv X pins σ H1 s1 → wpAny (model X.prog X.w) X.A (callWith pos (.ref g) [.ref a] (backTo pos (starEach args X.env)) (backToKw pos (keywordEach [] X.env))) Q X.xe s1)
    (ht : eval (.Call (.Attribute e m apos) args [] pos) X.env = (do
      let ov ← eval e X.env
      standAt apos.atName
      let (f, first) ← holding [ov] (getMethod ov m pl)
      callWith pos f first (backTo pos (starEach args X.env)) (backToKw pos (keywordEach [] X.env)))) :
    wpAny (model X.prog X.w) X.A (eval (.Call (.Attribute e m apos) args [] pos) X.env) Q X.xe s := by
  refine PySem.W.methodCall_KW (pl := pl) (thn (he pins s σ H _ I h) fun u s1 ⟨x, H1, I1, rx, a, C, dx, fs, g, ex, ea, c, k, l, q⟩ => ?_) ht
  subst ex
  obtain rfl : u = Value.ref a := rx
  exact getmeth_ok I1 ea c k l (q s1 I1)
end
/-! ### isinstance -/
section
variable {X : Cx} {pins : List (Addr × Obj)} {σ : St} {H : Hp} {s : Shared} {A : Around} {E : Value → Shared → Prop} {Q : Value → Shared → Prop} {c : Value} {b : Bool}
inductive TyOf (K : PySem.W.Frag) (H : Hp) : V → Value → Prop where
  | non : TyOf K H .non (.type "NoneType")
  | bl (x : Bool) : TyOf K H (.bl x) (.type "bool")
  | int (i : Int) : TyOf K H (.int i) (.type "int")
  | str (x : Str) : TyOf K H (.str x) (.type "str")
  | flt (x : UInt64) : TyOf K H (.flt x) (.type "float")
  | lst {a : Addr} {xs : List V} (e : H a = some (.lst xs)) : TyOf K H (.ref a) (.type "list")
  | frz {a : Addr} {o : Obj} {xs : List V} (e : H a = some (.frz o (.lst xs))) : TyOf K H (.ref a) (.type "list")
  | tup {a : Addr} {xs : List V} (e : H a = some (.tup xs)) : TyOf K H (.ref a) (.type "tuple")
  | dK {a : Addr} {kvs : List (Key × V)} (e : H a = some (.dK kvs)) : TyOf K H (.ref a) (.type "dict")
  | dT {a : Addr} {kvs : List (List Key × V)} (e : H a = some (.dT kvs)) : TyOf K H (.ref a) (.type "dict")
  | ins {a C dx : Addr} {fs : List (Str × V)} (e : H a = some (.ins C dx fs)) (cl : Cls K C) (ha : PySem.W.findIn K (.ref C) "__class__" = some (some (.builtin "object.__class__")))
      (hn : PySem.W.specialIn K (.builtin "object.__class__") "__get__" = some (some (.builtin "getset_descriptor.__get__"))) (htk : PySem.W.takesIn K (.builtin "object.__class__") = some true)
      (hm : PySem.W.mroIn K C (.type "object") = some true) : TyOf K H (.ref a) (.ref C)
theorem isinst_ok {x : V} {u t : Value} (I : Inv X pins σ H s) (rx : RelV x u) (ty : TyOf X.K H x t) (e : PySem.W.kitOne X.K t c = some b) (h : ∀ tk, Q (.bool b) { s with toks := tk }) :
    wpAny (model X.prog X.w) A (call (.builtin "isinstance") [u, c]) Q E s := by
  cases ty with
  | non => cases (show u = Value.none from rx); exact PySem.W.kia_one PySem.W.kitx_none I.kIn True.intro e (fun z => nomatch z) h
  | bl y => cases (show u = Value.bool y from rx); exact PySem.W.kia_one PySem.W.kitx_bool I.kIn True.intro e (fun z => nomatch z) h
  | int i => obtain ⟨t, q⟩ := (show ∃ t, u = Value.int i t from rx); cases q; exact PySem.W.kia_one PySem.W.kitx_int I.kIn True.intro e (fun z => nomatch z) h
  | str y => obtain ⟨t, q⟩ := (show ∃ t, u = Value.str y t from rx); cases q; exact PySem.W.kia_one PySem.W.kitx_str I.kIn True.intro e (fun z => nomatch z) h
  | flt y => obtain ⟨t, q⟩ := (show ∃ t, u = Value.float y t from rx); cases q; exact PySem.W.kia_one PySem.W.kitx_float I.kIn True.intro e (fun z => nomatch z) h
  | @lst a xs ea =>
    cases (show u = Value.ref a from rx)
    obtain ⟨_, _, n, _, h1⟩ := (show ObjOk X.prog X.w H s.heap a (.lst xs) from I.hok a _ ea)
    exact PySem.W.kia_one PySem.W.kitx_list I.kIn ⟨_, h1, rfl⟩ e (fun z => nomatch z) h
  | @frz a ob xs ea =>
    cases (show u = Value.ref a from rx)
    obtain ⟨_, _, _, n, _, h1⟩ := (show ObjOk X.prog X.w H s.heap a (.frz ob (.lst xs)) from I.hok a _ ea)
    exact PySem.W.kia_one PySem.W.kitx_list I.kIn ⟨_, h1, rfl⟩ e (fun z => nomatch z) h
  | @tup a xs ea =>
    cases (show u = Value.ref a from rx)
    obtain ⟨_, _, _, p⟩ := (show ObjOk X.prog X.w H s.heap a (.tup xs) from I.hok a _ ea)
    obtain ⟨o, h1, h2, _⟩ := p
    exact PySem.W.kia_one PySem.W.kitx_tuple I.kIn ⟨o, h1, h2⟩ e (fun z => nomatch z) h
  | @dK a kvs ea =>
    cases (show u = Value.ref a from rx)
    obtain ⟨_, _, vs, _, p⟩ := (show ObjOk X.prog X.w H s.heap a (.dK kvs) from I.hok a _ ea)
    obtain ⟨o, es, ep, h1, h2, _⟩ := p
    exact PySem.W.kia_one PySem.W.kitx_dict I.kIn ⟨o, h1, h2.1⟩ e (fun z => nomatch z) h
  | @dT a kvs ea =>
    cases (show u = Value.ref a from rx)
    obtain ⟨_, _, xs, _, o, es, ep, h1, h2, _⟩ := (show ObjOk X.prog X.w H s.heap a (.dT kvs) from I.hok a _ ea)
    exact PySem.W.kia_one PySem.W.kitx_dict I.kIn ⟨o, h1, h2.1⟩ e (fun z => nomatch z) h
  | @ins a C dx fs ea cl ha hn htk hm =>
    cases (show u = Value.ref a from rx)
    obtain ⟨mA, O, _⟩ := ins_get I.hok ea
    obtain ⟨od, J, _⟩ := O.look
    exact PySem.W.kia_one (PySem.W.kitx_own (cl.get _) cl.hd ha hn htk hm) I.kIn J e (fun z => nomatch z) h
end
end L2
namespace L2
open PySem PySem.Spec PyProof.Rows
/-! ### room -/
structure Room (k : Nat) (A : Around) : Prop where
  hd : A.handled = none
  dp : A.depth + 3 * k + 5 < recursionLimit
  un : A.units + 16 * k + 200 < cLine
theorem Room.mono {j k : Nat} {A : Around} (r : Room k A) (h : j ≤ k) : Room j A := ⟨r.hd, by have := r.dp; omega, by have := r.un; omega⟩
theorem Room.deeper {k : Nat} {A : Around} (r : Room (k + 1) A) (env : Env) : Room k (A.deeper env) :=
  ⟨r.hd, by have := r.dp; show A.depth + 1 + 3 * k + 5 < _; omega, by have := r.un; show A.units + 3 + 16 * k + 200 < _; omega⟩
theorem Room.in1 {k : Nat} {A : Around} (r : Room (k + 1) A) : Room k A.in1 :=
  ⟨r.hd, by have := r.dp; show A.depth + 3 * k + 5 < _; omega, by have := r.un; show A.units + 1 + 16 * k + 200 < _; omega⟩
theorem make_depth {A : Around} {C : Addr} {us : List Value} {kw : List (Str × Value)} : (A.under (.builtin "type.__call__" ⟨.ref C :: us, kw⟩)).depth = A.depth + 1 := by
  first | rfl | simp [Around.under, Code.weight, Code.isCreation, Code.isGuard, Code.isCaller, Code.frames, Code.isFrame, guardIds]
theorem make_units {A : Around} {C : Addr} {us : List Value} {kw : List (Str × Value)} : (A.under (.builtin "type.__call__" ⟨.ref C :: us, kw⟩)).units = A.units + 1 := by
  first | rfl | simp [Around.under, Code.cUnits, Code.frames, Code.isFrame]
theorem Room.make {k : Nat} {A : Around} (r : Room (k + 1) A) (C : Addr) (us : List Value) (kw : List (Str × Value)) : Room k (A.under (.builtin "type.__call__" ⟨.ref C :: us, kw⟩)) :=
  ⟨r.hd, by have := r.dp; rw [make_depth]; omega, by have := r.un; rw [make_units]; omega⟩
theorem Room.depth {k : Nat} {A : Around} (r : Room k A) : A.depth < recursionLimit := by have := r.dp; omega
theorem Room.units {k : Nat} {A : Around} (r : Room k A) : A.units + 64 < cLine := by have := r.un; omega
/-! ### argument lists and displays -/
noncomputable def tNil : TA := fun _ H Q => Q [] H
noncomputable def tCons (ta : TE) (tr : TA) : TA := fun σ H Q => ta σ H fun x H1 => tr σ H1 fun xs H2 => Q (x :: xs) H2
section
variable {X : Cx} {e : Expr} {es : List Expr} {te : TE} {t : TA} {pos : Pos}
theorem pa_nil : PA X [] tNil := fun _ _ _ _ H Q I h => Calls.spliced_nil ⟨[], H, I, .nil, h⟩
theorem pa_cons (ha : PE X e te) (hr : PA X es t) (hs : starEach (e :: es) X.env = (false, eval e X.env) :: starEach es X.env := by rfl) : PA X (e :: es) (tCons te t) := by
  intro pos pins s σ H Q I h
  rw [hs]
  show wpAny _ _ (spliced ((false, eval e X.env) :: backTo pos (starEach es X.env))) _ _ s
  refine Calls.spliced_cons (thn (ha pins s σ H _ I h) fun u s1 ⟨x, H1, I1, r1, q1⟩ => ?_)
  exact thn (hr pos pins s1 σ H1 _ I1 q1) fun us s2 ⟨xs, H2, I2, r2, q2⟩ => ⟨x :: xs, H2, I2, .cons r1 r2, q2⟩

noncomputable def tTup (t : TA) : TE := fun σ H Q => t σ H fun xs H1 => xs.length ≤ sizeLine ∧ ∀ p, H1 p = none → Q (.ref p) (upd H1 p (.tup xs))
noncomputable def tLst (t : TA) : TE := fun σ H Q => t σ H fun xs H1 => xs.length ≤ sizeLine ∧ ∀ p, H1 p = none → Q (.ref p) (upd H1 p (.lst xs))
theorem pe_tup {x1} (h : PA X es t) : PE X (.Tuple es x1 pos) (tTup t) := by
  intro pins s σ H Q I hq
  refine wpAny_Tuple_spliced (thn (h pos pins s σ H _ I hq) fun us s1 ⟨xs, H1, I1, r, z, q⟩ => ⟨by rw [← r.length]; exact z, ?_⟩)
  have hf : H1 s1.heap.objs.size = none := I1.hok.fresh (Nat.le_refl _)
  refine ⟨.ref s1.heap.objs.size, upd H1 s1.heap.objs.size (.tup xs), I1.laid (t' := s1.toks) (fun b u e => Heap.get?_push_of_some _ e) (Nat.le_refl _) ?_, rfl, q _ hf⟩
  exact ⟨z, us, r, ⟨_, Heap.get?_push_size _ rfl, rfl, _, rfl⟩⟩
theorem pe_lst (h : PA X es t) : PE X (.List es pos) (tLst t) := by
  intro pins s σ H Q I hq
  refine wpAny_List_spliced (thn (h pos pins s σ H _ I hq) fun us s1 ⟨xs, H1, I1, r, z, q⟩ => ⟨by rw [← r.length]; exact z, ?_⟩)
  have hf : H1 s1.heap.objs.size = none := I1.hok.fresh (Nat.le_refl _)
  refine ⟨.ref s1.heap.objs.size, upd H1 s1.heap.objs.size (.lst xs), I1.laid (t' := s1.toks) (fun b u e => Heap.get?_push_of_some _ e) (Nat.le_refl _) ?_, rfl, q _ hf⟩
  exact ⟨z, us, 0, r, Heap.get?_push_size _ rfl⟩
end
/-! ### what a def promises -/
noncomputable abbrev Sp := List V → Hp → VK → XK → Prop
noncomputable abbrev CXT := List Env → Hp → Shared → XK → Value → Shared → Prop

structure Env0 (P : Program) (w : World) (K : PySem.W.Frag) (mg : Str → Option Value) (base : Heap) (A : Around) (outer : List Env) (s : Shared) (H : Hp) : Prop where
  frames : A.frames = some outer
  mod : Mod K mg base
  bs : ∀ b o, base.get? b = some o → s.heap.get? b = some o ∧ H b = none
  bsz : base.objs.size ≤ s.heap.objs.size
  funs : s.heap.FunFrames base outer
  frf : ∀ b ∈ frs outer, H b = none
  hok : HOk P w H s.heap
  bare : AllBare s.gens
noncomputable def CE (outer : List Env) (P : Program) (w : World) (H : Hp) (s : Shared) (Q : VK) (u : Value) (s' : Shared) : Prop :=
  ∃ v H', s'.os = s.os ∧ AllBare s'.gens ∧ Un (frs outer) [] H H' s.heap s'.heap ∧ HOk P w H' s'.heap ∧ RelV v u ∧ Q v H'
noncomputable def CR (CX : CXT) (outer : List Env) (P : Program) (w : World) (H : Hp) (s : Shared) (Q : VK) (E : XK) (r : Result) (s' : Shared) : Prop :=
  match r with
  | .ok (.ret u) => CE outer P w H s Q u s'
  | .ok _ => False
  | .error e => CX outer H s E e s'
structure FnOk (P : Program) (w : World) (K : PySem.W.Frag) (mg : Str → Option Value) (base : Heap) (CX : CXT) (k : Nat) (f : Addr) (fd : FuncData) (ps : List Str) (sp : Sp) : Prop where
  len : ∀ vs H Q E, sp vs H Q E → vs.length = ps.length
  run : ∀ (A : Around) (outer : List Env) (s : Shared) (H : Hp) (args : Args) (us : List Value) (vs : List V) (Q : VK) (E : XK), Room k A → Env0 P w K mg base A outer s H → BindsTo s fd args (ps.zip us) → Vals vs us → sp vs H Q E →
    codeAny (model P w) A (.call (.ref f) args) (CR CX outer P w H s Q E) s
theorem FnOk.imp {P : Program} {w : World} {K : PySem.W.Frag} {mg : Str → Option Value} {base : Heap} {CX : CXT} {k : Nat} {f : Addr} {fd : FuncData} {ps : List Str} {sp sp' : Sp} (F : FnOk P w K mg base CX k f fd ps sp)
    (h : ∀ vs H Q E, sp' vs H Q E → sp vs H Q E) : FnOk P w K mg base CX k f fd ps sp' :=
  ⟨fun vs H Q E q => F.len vs H Q E (h _ _ _ _ q), fun A outer s H args us vs Q E hr he hb hv hs => F.run A outer s H args us vs Q E hr he hb hv (h _ _ _ _ hs)⟩

theorem Env0.make {P : Program} {w : World} {K : PySem.W.Frag} {mg : Str → Option Value} {base : Heap} {A : Around} {outer : List Env} {s : Shared} {H : Hp} (e : Env0 P w K mg base A outer s H) (C : Addr) (us : List Value) (kw : List (Str × Value)) :
    Env0 P w K mg base (A.under (.builtin "type.__call__" ⟨.ref C :: us, kw⟩)) outer s H := ⟨by first | exact e.frames | (simpa [Around.under, Code.envs, Code.isFrame, pushEnvs] using e.frames), e.mod, e.bs, e.bsz, e.funs, e.frf, e.hok, e.bare⟩
section
variable {X : Cx} {pins : List (Addr × Obj)} {σ : St} {H : Hp} {s s' : Shared}
theorem Inv.env0 (I : Inv X pins σ H s) : Env0 X.prog X.w X.K X.mg X.base X.A X.stack s H :=
  ⟨I.ok.frames, I.ok.mod, I.bs, Nat.le_trans I.ok.bsz I.sz, I.stack, I.stkFree, I.hok, I.bare⟩
theorem Inv.after {Q : VK} {u : Value} (I : Inv X pins σ H s) (h : CE X.stack X.prog X.w H s Q u s') : EP X pins σ Q u s' := by
  obtain ⟨v, H', os, bare, un, hok, r, q⟩ := h
  obtain ⟨hh, g, d, t, os'⟩ := s'
  obtain rfl : os' = s.os := os
  exact ⟨v, H', I.call (h' := hh) (g' := g) (d' := d) (t' := t) (ch := []) un hok bare (fun b z => absurd z (by simp)), r, q⟩
end
/-! ### calls -/
noncomputable def tCall (sp : Sp) (dvs : List V) (E : St → XK) (t : TA) : TE := fun σ H Q => t σ H fun vs H1 => sp (vs ++ dvs) H1 Q (E σ)
noncomputable def tMeth (C : Addr) (m : Str) (sp : Sp) (dvs : List V) (E : St → XK) (ta : TE) (t : TA) : TE := fun σ H Q => ta σ H fun x H1 => ∃ a dx fs, x = .ref a ∧ H1 a = some (.ins C dx fs) ∧ fs.lookup m = none ∧
  t σ H1 fun vs H2 => sp (x :: (vs ++ dvs)) H2 Q (E σ)
noncomputable def tMake (C : Addr) (sp : Sp) (dvs : List V) (E : St → XK) (t : TA) : TE := fun σ H Q => t σ H fun vs H1 => ∀ x dx, H1 x = none → H1 dx = none → dx ≠ x →
  sp (.ref x :: (vs ++ dvs)) (upd (upd H1 dx (.own x)) x (.ins C dx [])) (fun v H2 => v = .non ∧ Q (.ref x) H2) (E σ)

noncomputable def Binds (K : PySem.W.Frag) (fd : FuncData) (ps : List Str) (ds : List Value) : Prop :=
  ∀ (s : Shared) (us : List Value), K.In s.heap → (us ++ ds).length = ps.length → BindsTo s fd ⟨us, []⟩ (ps.zip (us ++ ds))
theorem Binds.all {K : PySem.W.Frag} {fd : FuncData} {ps : List Str} (h : ∀ us : List Value, us.length = ps.length → bindArgs fd ⟨us, []⟩ = pure (ps.zip us)) : Binds K fd ps [] := fun s us _ hl => by
  rw [List.append_nil] at hl ⊢
  exact .of_eq (h us hl)

noncomputable def Passes (CX : CXT) (X : Cx) (E : St → XK) : Prop := ∀ (pins : List (Addr × Obj)) (σ : St) (H : Hp) (s : Shared) (e : Value) (s' : Shared), Inv X pins σ H s → CX X.stack H s (E σ) e s' → X.xe e s'

section
variable {X : Cx} {CX : CXT} {k : Nat} {f C : Addr} {fd : FuncData} {ps : List Str} {sp : Sp} {dvs : List V} {ds : List Value} {E : St → XK} {x m : Str} {p pos apos : Pos} {e o : Expr} {es : List Expr} {ta : TE} {t : TA}
theorem run_fn {pins : List (Addr × Obj)} {σ : St} {H : Hp} {s : Shared} {Q : VK} {us : List Value} {vs : List V} (F : FnOk X.prog X.w X.K X.mg X.base CX k f fd ps sp) (hr : Room k X.A) (hb : Binds X.K fd ps ds) (hd : Vals dvs ds) (hx : Passes CX X E)
    (I : Inv X pins σ H s) (r : Vals vs us) (h : sp (vs ++ dvs) H Q (E σ)) : wpAny (model X.prog X.w) X.A (call (.ref f) us) (EP X pins σ Q) X.xe s := by
  have r2 : Vals (vs ++ dvs) (us ++ ds) := r.append hd
  have hl : (us ++ ds).length = ps.length := by rw [← r2.length]; exact F.len _ _ _ _ h
  refine wpAny_call (codeAny_mono (F.run X.A X.stack s H ⟨us, []⟩ (us ++ ds) (vs ++ dvs) Q (E σ) hr I.env0 (hb s us I.kIn hl) r2 h) fun r s' hq => ?_)
  cases r with
  | error e => exact hx pins σ H s e s' I hq
  | ok fl =>
    cases fl with
    | ret u => exact I.after hq
    | next => exact False.elim hq
    | brk => exact False.elim hq
    | cont => exact False.elim hq

theorem pe_call (F : FnOk X.prog X.w X.K X.mg X.base CX k f fd ps sp) (hr : Room k X.A) (hg : Gl X x) (hm : X.mg x = some (.ref f)) (hk : PySem.W.keepIn X.K (.ref f) = true) (hb : Binds X.K fd ps ds) (hd : Vals dvs ds) (hx : Passes CX X E)
    (ha : PA X (e :: es) t) (hdb : (x == ("__debug__" : Str)) = false := by decide) (he : starEach (e :: es) X.env = (false, eval e X.env) :: starEach es X.env := by rfl) (hpl : (backTo pos (starEach es X.env)).any (·.1) = false := by rfl) :
    PE X (.Call (.Name x p) (e :: es) [] pos) (tCall sp dvs E t) := by
  intro pins s σ H Q I h
  refine wpAny_Call_Name_kw (ld_glob I hg hm ?_ hdb)
  refine PySem.W.callWith_K (h₀ := X.base) I.ok.mod.kin hk (thn (ha pos pins s σ H _ I h) fun us s1 ⟨vs, H1, I1, r, q⟩ => ⟨I1.kIn, ?_⟩) he hpl
  exact run_fn F hr hb hd hx I1 r q
theorem pe_meth {pl : Sem Bool} (he : PE X o ta) (c : Cls X.K C) (hm : Meth X.K C m f) (F : FnOk X.prog X.w X.K X.mg X.base CX k f fd ps sp) (hr : Room k X.A) (hb : Binds X.K fd ps ds) (hd : Vals dvs ds) (hx : Passes CX X E) (ha : PA X (e :: es) t)
    (hst : starEach (e :: es) X.env = (false, eval e X.env) :: starEach es X.env := by rfl) (hpl : (backTo pos (starEach es X.env)).any (·.1) = false := by rfl)
    (ht : eval (.Call (.Attribute o m apos) (e :: es) [] pos) X.env = (do
      let ov ← eval o X.env
      standAt apos.atName
      let (f, first) ← holding [ov] (getMethod ov m pl)
      callWith pos f first (backTo pos (starEach (e :: es) X.env)) (backToKw pos (keywordEach [] X.env))) := by rfl) :
    PE X (.Call (.Attribute o m apos) (e :: es) [] pos) (tMeth C m sp dvs E ta t) := by
  intro pins s σ H Q I h
  refine PySem.W.methodCall_KW (pl := pl) (thn (he pins s σ H _ I h) fun u s1 ⟨x, H1, I1, rx, a, dx, fs, ex, ea, l, q⟩ => ?_) ht
  subst ex
  obtain rfl : u = Value.ref a := rx
  refine getmeth_ok I1 ea c hm l ?_
  refine PySem.W.callWith_K (first := [.ref a]) (h₀ := X.base) I.ok.mod.kin hm.kp (thn (ha pos pins s1 σ H1 _ I1 q) fun us s2 ⟨vs, H2, I2, r, q2⟩ => ⟨I2.kIn, ?_⟩) hst hpl
  exact run_fn (us := .ref a :: us) (vs := .ref a :: vs) F hr hb hd hx I2 (.cons rfl r) q2
structure Mk (K : PySem.W.Frag) (C f : Addr) : Prop where
  makes : PySem.W.makesIn K C = true
  init : PySem.W.findIn K (.ref C) "__init__" = some (some (.ref f))
  fn : PySem.W.isFn K (.ref f) = true
  kp : PySem.W.keepIn K (.ref C) = true

theorem run_make {pins : List (Addr × Obj)} {σ : St} {H : Hp} {s : Shared} {Q : VK} {us : List Value} {vs : List V} (M : Mk X.K C f) (F : FnOk X.prog X.w X.K X.mg X.base CX k f fd ps sp) (hr : Room (k + 1) X.A) (hb : Binds X.K fd ps ds) (hd : Vals dvs ds)
    (hx : Passes CX X E) (I : Inv X pins σ H s) (r : Vals vs us)
    (h : ∀ x dx, H x = none → H dx = none → dx ≠ x → sp (.ref x :: (vs ++ dvs)) (upd (upd H dx (.own x)) x (.ins C dx [])) (fun v H2 => v = .non ∧ Q (.ref x) H2) (E σ)) :
    wpAny (model X.prog X.w) X.A (call (.ref C) us) (EP X pins σ Q) X.xe s := by
  have hq := h (s.heap.objs.size + 1) s.heap.objs.size (I.hok.fresh (Nat.le_succ _)) (I.hok.fresh (Nat.le_refl _)) (Nat.ne_of_lt (Nat.lt_succ_self _))
  have I2 := Inv.made (C := C) I
  have r2 : Vals (V.ref (s.heap.objs.size + 1) :: (vs ++ dvs)) (Value.ref (s.heap.objs.size + 1) :: (us ++ ds)) := .cons rfl (r.append hd)
  have hl : (Value.ref (s.heap.objs.size + 1) :: us ++ ds).length = ps.length := by
    have e := r2.length
    rw [F.len _ _ _ _ hq] at e
    exact e.symm
  refine wpAny_call (make_map (f := f) I.kIn M.makes M.init (beq_iff_eq.mp M.fn) (codeAny_mono (F.run _ X.stack _ _ ⟨Value.ref (s.heap.objs.size + 1) :: us, []⟩ (Value.ref (s.heap.objs.size + 1) :: (us ++ ds)) _ _ (E σ) (hr.make C us [])
    (I2.env0.make C us []) (hb _ (Value.ref (s.heap.objs.size + 1) :: us) I2.kIn hl) r2 hq) fun r s' hq' => ?_))
  cases r with
  | error e => exact hx pins σ _ _ e s' I2 hq'
  | ok fl =>
    cases fl with
    | ret u =>
      obtain ⟨v, H', I3, rv, ev, q3⟩ := I2.after hq'
      subst ev
      exact ⟨rv, ⟨V.ref (s.heap.objs.size + 1), H', I3, rfl, q3⟩⟩
    | next => exact False.elim hq'
    | brk => exact False.elim hq'
    | cont => exact False.elim hq'
theorem pe_make (M : Mk X.K C f) (F : FnOk X.prog X.w X.K X.mg X.base CX k f fd ps sp) (hr : Room (k + 1) X.A) (hg : Gl X x) (hm : X.mg x = some (.ref C)) (hb : Binds X.K fd ps ds) (hd : Vals dvs ds) (hx : Passes CX X E)
    (ha : PA X (e :: es) t) (hdb : (x == ("__debug__" : Str)) = false := by decide) (he : starEach (e :: es) X.env = (false, eval e X.env) :: starEach es X.env := by rfl) (hpl : (backTo pos (starEach es X.env)).any (·.1) = false := by rfl) :
    PE X (.Call (.Name x p) (e :: es) [] pos) (tMake C sp dvs E t) := by
  intro pins s σ H Q I h
  refine wpAny_Call_Name_kw (ld_glob I hg hm ?_ hdb)
  refine PySem.W.callWith_K (h₀ := X.base) I.ok.mod.kin M.kp (thn (ha pos pins s σ H _ I h) fun us s1 ⟨vs, H1, I1, r, q⟩ => ⟨I1.kIn, ?_⟩) he hpl
  exact run_make M F hr hb hd hx I1 r q
end
/-! ### keywords -/
section
variable {X : Cx} {CX : CXT} {k : Nat} {f C : Addr} {fd : FuncData} {ps ks : List Str} {sp : Sp} {E : St → XK} {x m : Str} {p pos apos kpos : Pos} {e o : Expr} {es : List Expr} {kws : List Keyword} {te ta : TE} {t tk : TA} {nm : Option Str}
variable {g : List Value → List Value → List Value} {gV : List V → List V → List V}
end
/-! ### a def's body keeps its promise -/
structure FnScope (N P : List Str) (sc : Scope) : Prop where
  kind : sc.kind = .function
  co : sc.isCoroutine = false
  gen : sc.isGenerator = false
  nd : N.Nodup
  pre : N.take P.length = P
  par : ∀ x ∈ P, sc.names.lookup x = some .local ∨ sc.names.lookup x = some .cell
  nofree : ∀ y ∈ sc.names, y.2 ≠ .free

theorem bindL_out {kindOf : Str → Option NameKind} {x : Str} : ∀ {binds : List (Str × Value)} {m : Str → Option Value}, (∀ v, (x, v) ∉ binds) → bindL kindOf binds m x = m x
  | [], _, _ => rfl
  | (n, v) :: r, m, h => by
    unfold bindL
    rw [bindL_out fun w hw => h w (List.mem_cons_of_mem _ hw)]
    split
    · have : x ≠ n := by rintro rfl; exact h v List.mem_cons_self
      simp [this]
    · rfl
theorem bindC_out {kindOf : Str → Option NameKind} {x : Str} : ∀ {binds : List (Str × Value)} {m : Str → Option Value}, (∀ v, (x, v) ∉ binds) → bindC kindOf binds m x = m x
  | [], _, _ => rfl
  | (n, v) :: r, m, h => by
    unfold bindC
    rw [bindC_out fun w hw => h w (List.mem_cons_of_mem _ hw)]
    split
    · rfl
    · have : x ≠ n := by rintro rfl; exact h v List.mem_cons_self
      simp [this]
theorem bindL_get {kindOf : Str → Option NameKind} {x : Str} {v : Value} : ∀ {P : List Str} {vs : List Value} {i : Nat} {m : Str → Option Value}, P.Nodup → P[i]? = some x → vs[i]? = some v → kindOf x = some .local →
    bindL kindOf (P.zip vs) m x = some v
  | [], _, _, _, _, h, _, _ => by simp at h
  | _ :: _, [], _, _, _, _, h, _ => by simp at h
  | p :: P, w :: vs, 0, m, nd, h1, h2, hk => by
    simp at h1 h2; subst h1; subst h2
    show bindL kindOf ((p, w) :: P.zip vs) m p = _
    unfold bindL
    rw [bindL_out fun v hv => (List.nodup_cons.mp nd).1 (List.of_mem_zip hv).1, if_pos hk]
    simp
  | p :: P, w :: vs, i + 1, m, nd, h1, h2, hk => by
    show bindL kindOf ((p, w) :: P.zip vs) m x = _
    unfold bindL
    exact bindL_get (i := i) (List.nodup_cons.mp nd).2 (by simpa using h1) (by simpa using h2) hk
theorem bindC_get {kindOf : Str → Option NameKind} {x : Str} {v : Value} : ∀ {P : List Str} {vs : List Value} {i : Nat} {m : Str → Option Value}, P.Nodup → P[i]? = some x → vs[i]? = some v → kindOf x ≠ some .local →
    bindC kindOf (P.zip vs) m x = some v
  | [], _, _, _, _, h, _, _ => by simp at h
  | _ :: _, [], _, _, _, _, h, _ => by simp at h
  | p :: P, w :: vs, 0, m, nd, h1, h2, hk => by
    simp at h1 h2; subst h1; subst h2
    show bindC kindOf ((p, w) :: P.zip vs) m p = _
    unfold bindC
    rw [bindC_out fun v hv => (List.nodup_cons.mp nd).1 (List.of_mem_zip hv).1, if_neg hk]
    simp
  | p :: P, w :: vs, i + 1, m, nd, h1, h2, hk => by
    show bindC kindOf ((p, w) :: P.zip vs) m x = _
    unfold bindC
    exact bindC_get (i := i) (List.nodup_cons.mp nd).2 (by simpa using h1) (by simpa using h2) hk

noncomputable def start (N : List Str) (vs : List V) : St := vs.map some ++ List.replicate (N.length - vs.length) none

noncomputable def cxOf (CX : CXT) (P : Program) (w : World) (K : PySem.W.Frag) (mg : Str → Option Value) (base : Heap) (N : List Str) (qual : Str) (scope : Scope) (f : Addr) (cd : Value) (A : Around) (outer : List Env) (s : Shared) (H : Hp) (E : XK) : Cx where
  prog := P
  w := w
  K := K
  mg := mg
  base := base
  A := A.deeper (envOfC qual scope s.heap.objs.size f cd)
  N := N
  s₀ := s
  H₀ := H
  env := envOfC qual scope s.heap.objs.size f cd
  outer := outer
  stack := envOfC qual scope s.heap.objs.size f cd :: outer
  ex := []
  calm := true
  fn := fun _ => true
  pn := []
  xe := fun e s' => wpAny (model P w) (A.deeper (envOfC qual scope s.heap.objs.size f cd)) (leaving (envOfC qual scope s.heap.objs.size f cd) e) (fun _ s'' => CX outer H s E e s'') (fun e' s'' => CX outer H s E e' s'') s'

theorem cell_has {sc : Scope} {n : Nat} {x : Str} (h : sc.names.lookup x = some .cell) : ∃ c, (cellsFrom n sc.names []).lookup x = some c := by
  have q := PySem.W.cellsFrom_some sc.names n [] (.inl h)
  exact Option.isSome_iff_exists.mp q

theorem inv_start {CX : CXT} {P : Program} {w : World} {K : PySem.W.Frag} {mg : Str → Option Value} {base : Heap} {N ps : List Str} {qual : Str} {scope : Scope} {f : Addr} {cd : Value} {A : Around} {outer : List Env} {s s1 : Shared} {H : Hp} {E : XK} {us : List Value} {vs : List V}
    (S : FnScope N ps scope) (hd : A.handled = none) (e0 : Env0 P w K mg base A outer s H) (hl : vs.length = ps.length) (r : Vals vs us)
    (x : InCallC s s.heap.objs.size (bindL (envOfC qual scope s.heap.objs.size f cd).kindOf (ps.zip us) fun _ => none) (cellsFrom (s.heap.objs.size + 1) scope.names []) (bindC (envOfC qual scope s.heap.objs.size f cd).kindOf (ps.zip us) fun _ => none) s1) :
    Inv (cxOf CX P w K mg base N qual scope f cd A outer s H E) [] (start N vs) H s1 := by
  have hpl : ps.length ≤ N.length := by have := congrArg List.length S.pre; rw [List.length_take] at this; omega
  obtain ⟨h1, tk, rfl, hk⟩ := x.done
  have noA : ∀ b : Addr, b ∉ (cxOf CX P w K mg base N qual scope f cd A outer s H E).ex := fun b z => absurd (show b ∈ ([] : List Addr) from z) (by simp)
  refine ⟨⟨e0.mod, S.kind, rfl, rfl, Nat.le_refl _, fun y z c h1 h2 => ?_, fun y hy => ?_, fun y c _ h => ?_, fun _ => hd, Around.frames_deeper e0.frames, .inr ⟨rfl, rfl⟩, fun b z => absurd z (noA b), e0.bs, e0.bsz, fun b _ _ => noA b, fun b z => absurd z (noA b), e0.funs, e0.frf⟩,
    rfl, e0.bare, Un.kept hk, ⟨_, x.toInCall.ns, fun i y v h1 h2 h3 => ?_⟩, fun y c h => ⟨_, x.cell y c h⟩, e0.hok.fresh (Nat.le_refl _), fun y c h => ?_, fun p hp => absurd (show p ∈ ([] : List (Addr × Obj)) from hp) (by simp), e0.hok.kept hk, ?_⟩
  · exact name_of_addr x.apart (PySem.mem_of_lookup h1) (PySem.mem_of_lookup h2)
  · have hy : scope.names.lookup y = some .cell ∨ scope.names.lookup y = some .free := hy
    rcases hy with hy | hy
    · exact cell_has hy
    · exact absurd rfl (S.nofree _ (PySem.mem_of_lookup hy))
  · exact Nat.le_of_lt (x.above y c (PySem.mem_of_lookup h))
  · have hi : i < vs.length := by
      unfold start at h2
      by_cases hi : i < vs.length
      · exact hi
      · rw [List.getElem?_append_right (by simpa using hi)] at h2
        rw [List.getElem?_replicate] at h2
        split at h2 <;> cases h2
    have ha : vs[i]? = some v := by
      unfold start at h2
      rw [List.getElem?_append_left (by simpa using hi), List.getElem?_map] at h2
      cases e : vs[i]? with
      | none => rw [e] at h2; cases h2
      | some a => rw [e] at h2; cases h2; rfl
    obtain ⟨u, hu, rv⟩ := r.get ha
    have hp : ps[i]? = some y := by
      rw [← S.pre, List.getElem?_take_of_lt (by omega)]; exact h1
    have ndP : ps.Nodup := by rw [← S.pre]; exact S.nd.sublist (List.take_sublist _ _)
    refine ⟨u, rv, ?_⟩
    rcases S.par y (List.mem_of_getElem? hp) with k | k
    · exact .inl ⟨k, bindL_get ndP hp hu k⟩
    · obtain ⟨c, e⟩ := cell_has (n := s.heap.objs.size + 1) k
      refine .inr ⟨.inl k, c, e, ?_⟩
      have q := x.cell y c e
      rw [bindC_get ndP hp hu (by show scope.names.lookup y ≠ _; rw [k]; decide)] at q
      exact q
  · exact e0.hok.fresh (Nat.le_of_lt (x.above y c (PySem.mem_of_lookup h)))
  · unfold start
    show _ = N.length
    rw [List.length_append, List.length_map, List.length_replicate]
    omega

theorem fn_of {CX : CXT} {P : Program} {w : World} {K : PySem.W.Frag} {mg : Str → Option Value} {base : Heap} {k : Nat} {f : Addr} {name qual : Str} {params : Arguments} {body : List Stmt} {scope : Scope} {dV kV doc pm cdv ct oc : Value} {an od : Option Addr}
    {osl : Array (Option Value)} {N ps : List Str} {sp : Sp} (lk : K.lookup f = some ⟨oc, od, .func (PySem.W.fnOf name qual params body scope dV kV doc pm an cdv ct), osl⟩) (hcd : PySem.W.codeIn K cdv qual = true) (S : FnScope N ps scope)
    (len : ∀ vs H Q E, sp vs H Q E → vs.length = ps.length)
    (hbody : ∀ (A : Around) (outer : List Env) (s : Shared) (H : Hp) (vs : List V) (Q : VK) (E : XK), Room k (A.deeper (envOfC qual scope s.heap.objs.size f cdv)) → sp vs H Q E →
      ∃ t, PSs (cxOf CX P w K mg base N qual scope f cdv A outer s H E) body t ∧ t { nx := fun _ H' => Q .non H', rt := Q } (start N vs) H) :
    FnOk P w K mg base CX (k + 1) f (PySem.W.fnOf name qual params body scope dV kV doc pm an cdv ct) ps sp := by
  refine ⟨len, fun A outer s H args us vs Q E hr e0 hb r hsp => ?_⟩
  have hl := len _ _ _ _ hsp
  have KX : K.In s.heap := e0.mod.kin.keeps fun b o e => (e0.bs b o e).1
  have lim : s.heap.NoLimit := e0.mod.nolimit.keeps fun b o e => (e0.bs b o e).1
  have hkind : ∀ y ∈ ps.zip us, scope.names.lookup y.1 = some .local ∨ (scope.names.lookup y.1 = some .cell ∧ ((cellsFrom (s.heap.objs.size + 1) scope.names []).lookup y.1).isSome = true) := fun ⟨n, v⟩ hy => by
    rcases S.par n (List.of_mem_zip hy).1 with q | q
    · exact .inl q
    · exact .inr ⟨q, PySem.W.cellsFrom_some _ _ _ (.inl q)⟩
  refine codeAny_call_function hr.depth (KX _ _ lk) rfl S.co S.gen rfl (PySem.W.codeRec_of KX hcd) (hb _ _ _ _ ?_)
  refine wpAny_newFunctionEnv_cells S.kind hkind fun env he s1 x => ?_
  subst he
  refine ⟨lim.keeps x.toInCall.keep, codeAny_func ?_⟩
  obtain ⟨t, ht, hq⟩ := hbody A outer s H vs Q E (hr.deeper _) hsp
  have I : Inv (cxOf CX P w K mg base N qual scope f cdv A outer s H E) [] (start N vs) H s1 := inv_start S hr.hd e0 hl r x
  refine wpAny_mono (ht [] s1 (start N vs) H _ I hq) (fun fl s' hs => ?_) fun e s' hs => hs
  have fin : ∀ {σ' : St} {H' : Hp} {v : V} {u : Value}, Inv (cxOf CX P w K mg base N qual scope f cdv A outer s H E) [] σ' H' s' → RelV v u → Q v H' → CE outer P w H s Q u s' :=
    fun {σ' H' v u} J rv q => ⟨v, H', J.os, J.bare, J.base, J.hok, rv, q⟩
  cases fl with
  | ret u =>
    obtain ⟨v, σ', H', J, rv, q⟩ := hs
    exact fin J rv q
  | next =>
    obtain ⟨σ', H', J, q⟩ := hs
    exact fin (v := V.non) (u := Value.none) J rfl q
  | brk =>
    obtain ⟨_, _, _, q⟩ := hs
    exact False.elim q
  | cont =>
    obtain ⟨_, _, _, q⟩ := hs
    exact False.elim q
end L2
namespace L2
open PySem PySem.Spec PyProof.Rows
section
variable {X : Cx} {x : Str} {p pos : Pos} {e : Expr} {es : List Expr} {t : TA} {id T : String} {r : List V → Hp → VK → Prop}
noncomputable def tCB (r : List V → Hp → VK → Prop) (t : TA) : TE := fun σ H Q => t σ H fun vs H1 => r vs H1 Q
theorem pe_callB (hc : CallR X (.builtin id) r) (hg : Gl X x) (hm : X.mg x = none) (hv : bootBuiltins x = some (.builtin id)) (ha : PA X (e :: es) t) (hn : x ≠ "__name__" := by decide) (hdb : (x == ("__debug__" : Str)) = false := by decide)
    (he : starEach (e :: es) X.env = (false, eval e X.env) :: starEach es X.env := by rfl) (hpl : (backTo pos (starEach es X.env)).any (·.1) = false := by rfl) : PE X (.Call (.Name x p) (e :: es) [] pos) (tCB r t) := by
  intro pins s σ H Q I h
  refine wpAny_Call_Name_kw (ld_blt I hg hm hv ?_ hn hdb)
  exact PyProof.Rows.callWith_builtin1 (thn (ha pos pins s σ H _ I h) fun us s1 ⟨vs, H1, I1, r1, q1⟩ => hc pins s1 σ H1 vs us Q I1 r1 q1) he hpl
theorem pe_callTy (hc : CallR X (.type T) r) (hg : Gl X x) (hm : X.mg x = none) (hv : bootBuiltins x = some (.type T)) (ha : PA X (e :: es) t) (hn : x ≠ "__name__" := by decide) (hdb : (x == ("__debug__" : Str)) = false := by decide)
    (he : starEach (e :: es) X.env = (false, eval e X.env) :: starEach es X.env := by rfl) (hpl : (backTo pos (starEach es X.env)).any (·.1) = false := by rfl) : PE X (.Call (.Name x p) (e :: es) [] pos) (tCB r t) := by
  intro pins s σ H Q I h
  refine wpAny_Call_Name_kw (ld_blt I hg hm hv ?_ hn hdb)
  exact PyProof.Rows.callWith_type1 (thn (ha pos pins s σ H _ I h) fun us s1 ⟨vs, H1, I1, r1, q1⟩ => hc pins s1 σ H1 vs us Q I1 r1 q1) he hpl
end
end L2
namespace HT
open PySem PyProof.Rows
section
open PySem.SeqAt
open PySem.AutoSeq1 (wpAny_loadPart')
open PySem.MeetsSeq PySem.MeetsSeq2 PySem.MeetsSeq3
end
section
variable {prog : Program} {w : World} {A : Around} {E : Value → Shared → Prop} {s : Shared}
/-! ### t[a:b], not the whole -/
noncomputable def sIx (n d : Nat) : Option Int → Nat
  | none => d
  | some v => if v < 0 then (v + (n : Int)).toNat else min v.toNat n
end
end HT
namespace L2
open PySem PySem.Spec PyProof.Rows
/-! ### the parts of a slice -/
noncomputable abbrev TO := St → Hp → (Option Int → Hp → Prop) → Prop
noncomputable def PO (X : Cx) (e : Option Expr) (t : TO) : Prop :=
  ∀ (pins : List (Addr × Obj)) (s : Shared) (σ : St) (H : Hp) (Q : Option Int → Hp → Prop), Inv X pins σ H s → t σ H Q →
    wpAny (model X.prog X.w) X.A (evalPart e X.env) (fun u s' => ∃ o H', Inv X pins σ H' s' ∧ IsPart u o ∧ Q o H') X.xe s
noncomputable def tNoPart : TO := fun _ H Q => Q none H
noncomputable def tPart (t : TE) : TO := fun σ H Q => t σ H fun x H1 => ∃ i, x = .int i ∧ Q (some i) H1

section
variable {X : Cx} {e : Expr} {te : TE} {lo hi : Option Expr} {tl th : TO} {pos p2 : Pos}
theorem po_none : PO X none tNoPart := by
  intro pins s σ H Q I h
  rw [evalPart_none]
  exact wpAny_pure ⟨none, H, I, .none, h⟩
theorem po_some (h : PE X e te) : PO X (some e) (tPart te) := by
  intro pins s σ H Q I hw
  rw [evalPart_some]
  refine thn (h pins s σ H _ I hw) fun u s1 ⟨x, H1, I1, r1, q1⟩ => ?_
  obtain ⟨i, rfl, q⟩ := q1
  obtain ⟨t, rfl⟩ := r1
  exact ⟨some i, H1, I1, .int i t, q⟩

noncomputable def SlR (X : Cx) (r : V → Option Int → Option Int → Hp → VK → Prop) : Prop :=
  ∀ (pins : List (Addr × Obj)) (s : Shared) (σ : St) (H : Hp) (x : V) (v vl vu : Value) (lo hi : Option Int) (sl : Addr) (Q : VK), Inv X pins σ H s → RelV x v → s.heap.IsSliceOf sl vl vu .none → IsPart vl lo → IsPart vu hi → r x lo hi H Q →
    ∃ T id, typeLookup (.type T) "__getitem__" = pure (some (.builtin id)) ∧ s.TypeIs v T ∧ wpAny (model X.prog X.w) X.A (getItem v (.ref sl)) (EP X pins σ Q) X.xe s
noncomputable def tSl (r : V → Option Int → Option Int → Hp → VK → Prop) (te : TE) (tl th : TO) : TE := fun σ H Q => te σ H fun x H1 => tl σ H1 fun l H2 => th σ H2 fun u H3 => r x l u H3 Q
theorem pe_slice {r : V → Option Int → Option Int → Hp → VK → Prop} (hr : SlR X r) (he : PE X e te) (hl : PO X lo tl) (hu : PO X hi th) : PE X (.Subscript e (.Slice lo hi none p2) pos) (tSl r te tl th) := by
  intro pins s σ H Q I h
  refine Subscript_ (thn (he pins s σ H _ I h) fun v s1 ⟨x, H1, I1, r1, q1⟩ => ?_)
  refine wpAny_Slice (thn (hl pins s1 σ H1 _ I1 q1) fun vl s2 ⟨l, H2, I2, pl, q2⟩ => thn (hu pins s2 σ H2 _ I2 q2) fun vu s3 ⟨u, H3, I3, pu, q3⟩ => ?_)
  rw [evalPart_none]
  refine wpAny_pure ?_
  have I4 : Inv X pins σ H3 { s3 with heap := s3.heap.push { cls := .type "slice", data := .fields #[vl, vu, .none] } } := I3.kept (t' := s3.toks) fun b ob q => Heap.get?_push_of_some _ q
  obtain ⟨T, id, hT, ht, hg⟩ := hr pins { s3 with heap := s3.heap.push { cls := .type "slice", data := .fields #[vl, vu, .none] } } σ H3 x v vl vu l u s3.heap.objs.size Q I4 r1 (Heap.IsSliceOf.new ..) pl pu q3
  show wpAny (model X.prog X.w) X.A (subscriptTail e (.Slice lo hi none p2) v (.ref s3.heap.objs.size)) (EP X pins σ Q) X.xe { s3 with heap := s3.heap.push { cls := .type "slice", data := .fields #[vl, vu, .none] } }
  exact tail_any (ops := [.ref s3.heap.objs.size, v]) ht hT hg (by with_unfolding_all rfl)

noncomputable def cutV (xs : List V) (lo hi : Option Int) : List V := (xs.drop (HT.sIx xs.length 0 lo)).take (HT.sIx xs.length xs.length hi - HT.sIx xs.length 0 lo)
theorem cutV_length (xs : List V) (lo hi : Option Int) : (cutV xs lo hi).length ≤ xs.length := by
  unfold cutV
  rw [List.length_take, List.length_drop]
  omega
/-! ### t < u, t + u -/
end
end L2
namespace L2
open PySem PySem.Spec PyProof.Rows
/-! ### places -/
noncomputable def ixN (n : Nat) (i : Int) : Option Nat := if 0 ≤ i then (if i < n then some i.toNat else none) else if -(n : Int) ≤ i then some (i + n).toNat else none
noncomputable def atI {α : Type} (xs : List α) (i : Int) : Option α := (ixN xs.length i).bind fun j => xs[j]?
theorem ixN_seq {n : Nat} {i : Int} {j : Nat} (h : ixN n i = some j) : seqIndex? i n = some j ∧ j < n ∧ -(n : Int) ≤ i ∧ i < n := by
  unfold ixN at h
  by_cases h0 : 0 ≤ i
  · rw [if_pos h0] at h
    by_cases h1 : i < n
    · rw [if_pos h1] at h
      have e : i.toNat = j := Option.some.inj h
      exact ⟨by rw [seqIndex_of h0 h1, e], by omega, by omega, h1⟩
    · rw [if_neg h1] at h; cases h
  · rw [if_neg h0] at h
    by_cases h1 : -(n : Int) ≤ i
    · rw [if_pos h1] at h
      have e : (i + n).toNat = j := Option.some.inj h
      exact ⟨by rw [seqIndex_neg (by omega) h1, e], by omega, h1, by omega⟩
    · rw [if_neg h1] at h; cases h
theorem atI_get {α : Type} {xs : List α} {i : Int} {v : α} (h : atI xs i = some v) : ∃ j, seqIndex? i xs.length = some j ∧ xs[j]? = some v ∧ j < xs.length ∧ -(xs.length : Int) ≤ i ∧ i < xs.length := by
  unfold atI at h
  cases e : ixN xs.length i with
  | none => rw [e] at h; cases h
  | some j =>
    rw [e] at h
    obtain ⟨h1, h2, h3, h4⟩ := ixN_seq e
    exact ⟨j, h1, h, h2, h3, h4⟩
theorem atI_nat {α : Type} {xs : List α} {j : Nat} {v : α} (h : xs[j]? = some v) : atI xs (j : Int) = some v := by
  have hj : j < xs.length := (List.getElem?_eq_some_iff.mp h).1
  have e : ixN xs.length (j : Int) = some j := by
    unfold ixN
    rw [if_pos (by omega), if_pos (by omega)]; simp
  unfold atI; rw [e]; exact h
theorem atI_last {α : Type} (xs : List α) (v : α) : atI (xs ++ [v]) (-1) = some v := by
  have hl : (xs ++ [v]).length = xs.length + 1 := by simp
  have e : ixN (xs ++ [v]).length (-1) = some xs.length := by
    unfold ixN
    rw [hl, if_neg (by decide), if_pos (by omega)]
    congr 1
    omega
  unfold atI
  rw [e]
  show (xs ++ [v])[xs.length]? = some v
  simp

/-! ### what may be subscripted -/
noncomputable def PlainIx (b : Expr) : Prop := ∀ o i, subscripted b false o i = operate [o, i] (getItem o i)
noncomputable def IxR (X : Cx) (r : R2) : Prop :=
  ∀ (value slice : Expr) (pins : List (Addr × Obj)) (s : Shared) (σ : St) (H : Hp) (x y : V) (v u : Value) (Q : VK), Inv X pins σ H s → RelV x v → RelV y u → r x y H Q →
    subscripted slice false v u = operate [v, u] (getItem v u) → wpAny (model X.prog X.w) X.A (subscriptTail value slice v u) (EP X pins σ Q) X.xe s
noncomputable def MtR (X : Cx) (id : String) (r : V → List V → Hp → VK → Prop) : Prop :=
  ∀ (pins : List (Addr × Obj)) (s : Shared) (σ : St) (H : Hp) (x : V) (xs : List V) (v : Value) (us : List Value) (Q : VK), Inv X pins σ H s → RelV x v → Vals xs us → r x xs H Q →
    wpAny (model X.prog X.w) X.A (call (.builtin id) (v :: us)) (EP X pins σ Q) X.xe s
section
variable {X : Cx} {a b : Expr} {ta tb : TE} {pos : Pos}
theorem pe_ix {r : R2} (hr : IxR X r) (ha : PE X a ta) (hb : PE X b tb) (hs : PlainIx b) : PE X (.Subscript a b pos) (tOp r ta tb) := by
  intro pins s σ H Q I h
  exact Subscript_ (binT ha hb I h fun v u s2 x y H2 I2 rx ry q => hr a b pins s2 σ H2 x y v u Q I2 rx ry q (hs _ _))

noncomputable def rIxL (K : PySem.W.Frag) : R2 := fun x y H Q => ∃ p xs i v, x = .ref p ∧ y = .int i ∧ SqL K H p xs ∧ atI xs i = some v ∧ Q v H
noncomputable def rIxT (K : PySem.W.Frag) : R2 := fun x y H Q => ∃ p xs i v, x = .ref p ∧ y = .int i ∧ SqT K H p xs ∧ atI xs i = some v ∧ Q v H
noncomputable def rIxS : R2 := fun x y H Q => ∃ z i c, x = .str z ∧ y = .int i ∧ z.length ≤ sizeLine ∧ atI z.cps.toList i = some c ∧ Q (.str ⟨#[c]⟩) H
theorem ix_list : IxR X (rIxL X.K) := by
  intro value slice pins s σ H x y v u Q I rx ry h hs
  obtain ⟨p, xs, i, z, rfl, rfl, hq, he, q⟩ := h
  cases rx
  obtain ⟨t, rfl⟩ := ry
  obtain ⟨its, r, pl, hz⟩ := I.list hq
  obtain ⟨j, h1, h2, h3, h4, h5⟩ := atI_get he
  obtain ⟨w, ew, rw'⟩ := r.get h2
  have hl := r.length
  have hn := line63
  have fin : EP X pins σ Q w s := ⟨z, H, I, rw', q⟩
  by_cases h0 : 0 ≤ i
  · have hj : i.toNat = j := by
      rw [seqIndex_of h0 h5] at h1
      exact Option.some.inj h1
    exact item_listR pl.isList h0 (by omega) (by rw [hj]; simpa using ew) fin hs
  · have hj : (i + (its.toArray.size : Int)).toNat = j := by
      rw [seqIndex_neg (by omega) h4] at h1
      rw [List.size_toArray, ← hl]
      exact Option.some.inj h1
    exact subscriptTail_builtinR (x := w) pl.isList.typeIs slot_list_getitem.lookup
      (wpAny_getItem_list_neg (Q := fun r s' => r = w ∧ EP X pins σ Q r s') pl.isList (by omega) (by rw [List.size_toArray] <;> omega) (by omega) (by rw [hj]; simpa using ew) ⟨rfl, fin⟩) hs
theorem ix_tup : IxR X (rIxT X.K) := by
  intro value slice pins s σ H x y v u Q I rx ry h hs
  obtain ⟨p, xs, i, z, rfl, rfl, hq, he, q⟩ := h
  cases rx
  obtain ⟨t, rfl⟩ := ry
  obtain ⟨its, r, pl, hz⟩ := I.tuple hq
  obtain ⟨j, h1, h2, h3, h4, h5⟩ := atI_get he
  obtain ⟨w, ew, rw'⟩ := r.get h2
  have hl := r.length
  have hn := line63
  have fin : EP X pins σ Q w s := ⟨z, H, I, rw', q⟩
  exact subscriptTail_builtinR (x := w) pl.typeIs slot_tuple_getitem.lookup
    (getItem_tuple (j := j) (Q := fun r s' => r = w ∧ EP X pins σ Q r s') pl (by omega) (by omega) (by rw [List.size_toArray, ← hl]; exact h1) (by simpa using ew) ⟨rfl, fin⟩) hs
theorem ix_str : IxR X rIxS := by
  intro value slice pins s σ H x y v u Q I rx ry h hs
  obtain ⟨z, i, c, rfl, rfl, hz, he, q⟩ := h
  obtain ⟨t, rfl⟩ := rx
  obtain ⟨t', rfl⟩ := ry
  obtain ⟨j, h1, h2, h3, h4, h5⟩ := atI_get he
  have hl : z.cps.toList.length = z.length := by simp [Str.length]
  rw [hl] at h1 h4 h5
  have hn := line63
  exact tail_any (typeIs_str s z t) slot_str_getitem.lookup (getItem_str (c := c) (by
    have e1 : decide (i < -(2 ^ 63 : Int)) = false := decide_eq_false (by omega)
    have e2 : decide (i ≥ 2 ^ 63) = false := decide_eq_false (by omega)
    rw [e1, e2, Bool.or_false]) (by rw [h1]; simpa using h2) ⟨.str ⟨#[c]⟩, H, I.tok _, ⟨_, rfl⟩, q⟩) hs
/-! ### xs[i] = v, any sign -/
theorem mapSeq_set (its : List Value) (n j : Nat) (u : Value) : Obj.mapSeq (·.setIfInBounds j u) { cls := .type "list", data := .seq its.toArray n } = { cls := .type "list", data := .seq (its.set j u).toArray n } := by
  simp [Obj.mapSeq]
theorem Inv.lst {pins : List (Addr × Obj)} {σ : St} {H : Hp} {s : Shared} {p : Addr} {xs : List V} (I : Inv X pins σ H s) (h : H p = some (.lst xs)) :
    ∃ (its : List Value) (n : Nat), Vals xs its ∧ s.heap.get? p = some { cls := .type "list", data := .seq its.toArray n } ∧ xs.length ≤ sizeLine := by
  obtain ⟨z, its, n, r, e⟩ := I.hok p _ h
  exact ⟨its, n, r, e, z⟩
theorem Inv.lstUpd {pins : List (Addr × Obj)} {σ : St} {H : Hp} {s : Shared} {p : Addr} {xs ys : List V} {its its' : List Value} {n n' : Nat} {f : Obj → Obj} (I : Inv X pins σ H s) (h : H p = some (.lst xs))
    (ho : s.heap.get? p = some { cls := .type "list", data := .seq its.toArray n }) (hf : f { cls := .type "list", data := .seq its.toArray n } = { cls := .type "list", data := .seq its'.toArray n' }) (r : Vals ys its') (hz : ys.length ≤ sizeLine) (t : Nat) :
    Inv X pins σ (upd H p (.lst ys)) { s with heap := s.heap.update p f, toks := t } := by
  have e : (s.heap.update p f).get? p = some { cls := .type "list", data := .seq its'.toArray n' } := by
    rw [Heap.get?_update_self f ho (by rw [hf] <;> rfl), hf]
  refine I.write (x := p) (e := p) (by rw [h]; trivial) (.inl rfl) (fun b u hb q => (Heap.get?_update_other _ _ (Ne.symm hb)).trans q) ⟨_, e⟩ ?_
  exact ⟨hz, its', n', r, e⟩
noncomputable def rSetL : V → V → V → Hp → (Hp → Prop) → Prop := fun o i v H Q => ∃ p xs k j, o = .ref p ∧ i = .int k ∧ H p = some (.lst xs) ∧ ixN xs.length k = some j ∧ Q (upd H p (.lst (xs.set j v)))
theorem set_list : PSet X rSetL := by
  intro pins s σ H o i v ov iv u Q I ro ri rv h
  obtain ⟨p, xs, k, j, rfl, rfl, hp, hj, q⟩ := h
  cases ro
  obtain ⟨t, rfl⟩ := ri
  obtain ⟨its, n, r, ho, hz⟩ := I.lst hp
  obtain ⟨h1, h2, h3, h4⟩ := ixN_seq hj
  have hl := r.length
  have hn := line63
  have I' : Inv X pins σ (upd H p (.lst (xs.set j v))) { s with heap := s.heap.update p (Obj.mapSeq (·.setIfInBounds j u)) } :=
    I.lstUpd hp ho (mapSeq_set its n j u) (r.set rv j) (by rw [List.length_set]; exact hz) s.toks
  by_cases h0 : 0 ≤ k
  · have hk : k.toNat = j := by
      rw [seqIndex_of h0 h4] at h1
      exact Option.some.inj h1
    exact PySem.W.ki_setAt ho h0 (by omega) (by rw [List.size_toArray, ← hl]; exact h4) (by rw [hk]; exact ⟨_, I', q⟩)
  · have hk : (k + (its.toArray.size : Int)).toNat = j := by
      rw [seqIndex_neg (by omega) h3] at h1
      rw [List.size_toArray, ← hl]
      exact Option.some.inj h1
    exact PySem.W.ki_setBack ho (by omega) (by rw [List.size_toArray, ← hl]; exact h3) (by omega) (by rw [hk]; exact ⟨_, I', q⟩)

/-! ### slices -/
theorem slice_bounds (lo hi : Option Int) (n : Nat) : (sliceBounds lo hi none n).1 = ((HT.sIx n 0 lo : Nat) : Int) ∧ (sliceBounds lo hi none n).2.1 = ((HT.sIx n n hi : Nat) : Int) ∧ (sliceBounds lo hi none n).2.2 = 1 := by
  refine ⟨?_, ?_, rfl⟩
  · cases lo with
    | none => simp [sliceBounds, HT.sIx]
    | some i =>
      simp only [sliceBounds, HT.sIx, Option.getD_none, show (1 : Int) > 0 by decide, if_true]
      by_cases h : i < 0
      · simp only [h, if_true] <;> omega
      · simp only [h, if_false] <;> omega
  · cases hi with
    | none => simp [sliceBounds, HT.sIx]
    | some i =>
      simp only [sliceBounds, HT.sIx, Option.getD_none, show (1 : Int) > 0 by decide, if_true]
      by_cases h : i < 0
      · simp only [h, if_true] <;> omega
      · simp only [h, if_false] <;> omega
theorem slicePick_cut (its : List Value) (lo hi : Option Int) : slicePick its.toArray lo hi none = ((its.drop (HT.sIx its.length 0 lo)).take (HT.sIx its.length its.length hi - HT.sIx its.length 0 lo)).toArray := by
  obtain ⟨h1, h2, h3⟩ := slice_bounds lo hi its.toArray.size
  unfold slicePick
  rw [h1, h2, h3]
  simp only [sliceRange_one, pick_run, List.size_toArray] <;> rfl
noncomputable def rSlL (K : PySem.W.Frag) : V → Option Int → Option Int → Hp → VK → Prop := fun x lo hi H Q => ∃ a xs, x = .ref a ∧ SqL K H a xs ∧ ∀ p, H p = none → Q (.ref p) (upd H p (.lst (cutV xs lo hi)))
theorem sl_list : SlR X (rSlL X.K) := by
  intro pins s σ H x v vl vu lo hi sl Q I rx hs pl pu h
  obtain ⟨a, xs, rfl, hx, q⟩ := h
  cases rx
  obtain ⟨its, r, ht, hz⟩ := I.list hx
  have hlen := r.length
  refine ⟨"list", _, slot_list_getitem.lookup, ht.isList.typeIs, ?_⟩
  refine wpAny_getItem_list_slice ht.isList hs pl pu .none (by simp) ?_ (by rw [List.size_toArray] <;> omega)
  rw [slicePick_cut, ← hlen]
  refine ⟨.ref s.heap.objs.size, _, I.laid (t' := s.toks) (o := .lst (cutV xs lo hi)) (fun b ob q => Heap.get?_push_of_some _ q) (Nat.le_refl _) ?_, rfl, q _ (I.hok.fresh (Nat.le_refl _))⟩
  exact ⟨Nat.le_trans (cutV_length xs lo hi) hz, _, 0, (r.drop (HT.sIx xs.length 0 lo)).take (HT.sIx xs.length xs.length hi - HT.sIx xs.length 0 lo), Heap.get?_push_size _ rfl⟩

/-! ### in, not in: flat items -/
noncomputable def flatV : V → Bool
  | .non => true
  | .bl _ => true
  | .int _ => true
  | .str _ => true
  | _ => false
noncomputable def eqV : V → V → Bool
  | .non, .non => true
  | .bl a, .bl b => a == b
  | .bl a, .int b => (if a then 1 else 0) == b
  | .int a, .bl b => a == (if b then 1 else 0)
  | .int a, .int b => a == b
  | .str a, .str b => a == b
  | _, _ => false
theorem eqAt_V {A : Around} {s : Shared} {y x : V} {u v : Value} (ry : RelV y u) (rx : RelV x v) (fy : flatV y = true) (fx : flatV x = true) : SeqAt.EqAt A s u v (eqV y x) := by
  cases y with
  | non =>
    cases ry
    cases x with
    | non => cases rx; exact SeqAt.EqAt.same _
    | bl b => cases rx; exact SeqAt.EqAt.none_bool b
    | int b => obtain ⟨t, rfl⟩ := rx; exact SeqAt.EqAt.none_int b t
    | str b => obtain ⟨t, rfl⟩ := rx; exact SeqAt.EqAt.none_str b t
    | _ => exact absurd (show false = true from fx) Bool.false_ne_true
  | bl a =>
    cases ry
    cases x with
    | non => cases rx; exact SeqAt.EqAt.bool_none a
    | bl b => cases rx; exact SeqAt.EqAt.bool_bool a b
    | int b => obtain ⟨t, rfl⟩ := rx; exact SeqAt.EqAt.bool_int a b t
    | str b => obtain ⟨t, rfl⟩ := rx; exact SeqAt.EqAt.bool_str a b t
    | _ => exact absurd (show false = true from fx) Bool.false_ne_true
  | int a =>
    obtain ⟨t', rfl⟩ := ry
    cases x with
    | non => cases rx; exact SeqAt.EqAt.int_none a t'
    | bl b => cases rx; exact SeqAt.EqAt.int_bool a t' b
    | int b => obtain ⟨t, rfl⟩ := rx; exact SeqAt.EqAt.int_int a t' b t
    | str b => obtain ⟨t, rfl⟩ := rx; exact SeqAt.EqAt.int_str a t' b t
    | _ => exact absurd (show false = true from fx) Bool.false_ne_true
  | str a =>
    obtain ⟨t', rfl⟩ := ry
    cases x with
    | non => cases rx; exact SeqAt.EqAt.str_none a t'
    | bl b => cases rx; exact SeqAt.EqAt.str_bool a t' b
    | int b => obtain ⟨t, rfl⟩ := rx; exact SeqAt.EqAt.str_int a t' b t
    | str b => obtain ⟨t, rfl⟩ := rx; exact SeqAt.EqAt.str_str a t' b t
    | _ => exact absurd (show false = true from fx) Bool.false_ne_true
  | _ => exact absurd (show false = true from fy) Bool.false_ne_true
noncomputable def eqU (x : V) (u : Value) : Bool := match u with
  | .none => eqV .non x
  | .bool b => eqV (.bl b) x
  | .int i _ => eqV (.int i) x
  | .str z _ => eqV (.str z) x
  | _ => false
theorem eqU_of {x y : V} {u : Value} (r : RelV y u) (f : flatV y = true) : eqU x u = eqV y x := by
  cases y with
  | non => cases r; rfl
  | bl b => cases r; rfl
  | int i => obtain ⟨t, rfl⟩ := r; rfl
  | str z => obtain ⟨t, rfl⟩ := r; rfl
  | _ => exact absurd (show false = true from f) Bool.false_ne_true
theorem any_eqU {x : V} : ∀ {xs : List V} {us : List Value}, Vals xs us → xs.all flatV = true → us.any (eqU x) = xs.any fun y => eqV y x
  | _, _, .nil, _ => rfl
  | y :: xs, u :: us, .cons r t, f => by
    rw [List.all_cons, Bool.and_eq_true] at f
    rw [List.any_cons, List.any_cons, eqU_of r f.1, any_eqU t f.2]
theorem mem_eqAt {A : Around} {s : Shared} {x : V} {v : Value} (rx : RelV x v) (fx : flatV x = true) : ∀ {xs : List V} {us : List Value}, Vals xs us → xs.all flatV = true → ∀ u ∈ us, SeqAt.EqAt A s u v (eqU x u)
  | _, _, .nil, _ => fun u hu => by cases hu
  | y :: xs, u :: us, .cons r t, f => fun u' hu => by
    rw [List.all_cons, Bool.and_eq_true] at f
    rcases List.mem_cons.mp hu with rfl | hu
    · rw [eqU_of r f.1]; exact eqAt_V r rx f.1 fx
    · exact mem_eqAt rx fx t f.2 u' hu
noncomputable def inV (x : V) (xs : List V) : Bool := xs.any fun y => eqV y x
noncomputable def rIn (K : PySem.W.Frag) (neg : Bool) : R2 := fun x y H Q => ∃ p xs, y = .ref p ∧ (SqL K H p xs ∨ SqT K H p xs) ∧ flatV x = true ∧ xs.all flatV = true ∧ Q (.bl (if neg then !inV x xs else inV x xs)) H
theorem op_notIn_seq : OpR X (compareOp .NotIn) (rIn X.K true) := by
  intro pins s σ H x y v u Q I rx ry h
  obtain ⟨p, xs, rfl, hq, fx, fs, q⟩ := h
  cases ry
  rcases hq with hq | hq
  · obtain ⟨its, r, pl, hz⟩ := I.list hq
    refine SeqAt.notIn_listAt (eqU x) pl.isList (fun w hw => mem_eqAt rx fx r fs w (by simpa using hw)) ⟨.bl _, H, I, rfl, ?_⟩
    rw [show its.toArray.any (eqU x) = its.any (eqU x) by simp, any_eqU r fs]
    exact q
  · obtain ⟨its, r, pl, hz⟩ := I.tuple hq
    refine SeqAt.notIn_tupleAt (eqU x) pl (fun w hw => mem_eqAt rx fx r fs w (by simpa using hw)) ⟨.bl _, H, I, rfl, ?_⟩
    rw [show its.toArray.any (eqU x) = its.any (eqU x) by simp, any_eqU r fs]
    exact q
/-! ### len, list(x), tuple(x) of any list or tuple that is read -/
theorem call_len_seq : CallR X (.builtin "len") (fun xs H Q => ∃ p ys, xs = [.ref p] ∧ (SqL X.K H p ys ∨ SqT X.K H p ys) ∧ Q (.int ys.length) H) := by
  intro pins s σ H xs us Q I r h
  obtain ⟨p, ys, rfl, hq, q⟩ := h
  obtain ⟨u, rfl, rx⟩ := vals1 r
  cases rx
  have hn := line63
  rcases hq with hq | hq
  · obtain ⟨its, r', pl, hz⟩ := I.list hq
    have hlen := r'.length
    exact Calls.call_len_list pl.isList (by simp only [List.size_toArray] <;> omega) ⟨.int ys.length, H, I.tok _, ⟨s.toks + 1, by rw [List.size_toArray, hlen]⟩, q⟩
  · obtain ⟨its, r', pl, hz⟩ := I.tuple hq
    have hlen := r'.length
    exact len_tuple pl (by simp only [List.size_toArray] <;> omega) ⟨.int ys.length, H, I.tok _, ⟨s.toks + 1, by rw [List.size_toArray, hlen]⟩, q⟩
theorem call_len_str : CallR X (.builtin "len") (fun xs H Q => ∃ z, xs = [.str z] ∧ z.length ≤ sizeLine ∧ Q (.int z.length) H) := by
  intro pins s σ H xs us Q I r h
  obtain ⟨z, rfl, hz, q⟩ := h
  obtain ⟨u, rfl, t, rfl⟩ := vals1 r
  have hn := line63
  exact len_str (by omega) ⟨.int z.length, H, I.tok _, ⟨_, rfl⟩, q⟩
theorem call_list_of : CallR X (.type "list") (fun xs H Q => ∃ p ys, xs = [.ref p] ∧ (SqL X.K H p ys ∨ SqT X.K H p ys) ∧ ∀ l, H l = none → Q (.ref l) (upd H l (.lst ys))) := by
  intro pins s σ H xs us Q I r h
  obtain ⟨p, ys, rfl, hq, q⟩ := h
  obtain ⟨u, rfl, rx⟩ := vals1 r
  cases rx
  have fin : ∀ (its : List Value), Vals ys its → ys.length ≤ sizeLine → ∀ (h' : Heap) (c' : Nat), (∀ b o', s.heap.get? b = some o' → h'.get? b = some o') →
      h'.get? s.heap.objs.size = some { cls := .type "list", dict := none, data := .seq its.toArray c', slots := #[] } → EP X pins σ Q (.ref s.heap.objs.size) { s with heap := h' } := fun its r' hz h' c' kp e =>
    ⟨.ref s.heap.objs.size, _, I.laid (t' := s.toks) kp (Nat.le_refl _) (show ObjOk X.prog X.w _ h' _ (.lst ys) from ⟨hz, its, c', r', e⟩), rfl, q _ (I.hok.fresh (Nat.le_refl _))⟩
  rcases hq with hq | hq
  · obtain ⟨its, r', pl, hz⟩ := I.list hq
    have hlen := r'.length
    obtain ⟨o, ho, hc, n, hd⟩ := pl.isList
    exact call_list_seq p (.inl rfl) ho hc hd (fun h' c' kp e => fin its r' hz h' c' kp e) (by simp only [List.size_toArray] <;> omega)
  · obtain ⟨its, r', pl, hz⟩ := I.tuple hq
    have hlen := r'.length
    obtain ⟨o, ho, hc, n, hd⟩ := pl
    exact call_list_seq p (.inr rfl) ho hc hd (fun h' c' kp e => fin its r' hz h' c' kp e) (by simp only [List.size_toArray] <;> omega)
/-! ### the call of a builtin's method: o.m(..) -/
noncomputable def tyV (K : PySem.W.Frag) (T : String) (x : V) (H : Hp) : Prop := match x with
  | .str _ => T = "str"
  | .int _ => T = "int"
  | .ref p => (T = "list" ∧ ∃ xs, SqL K H p xs) ∨ (T = "tuple" ∧ ∃ o, K.lookup p = some o ∧ o.cls = .type "tuple" ∧ o.dict = none) ∨
      (T = "dict" ∧ ((∃ kvs, H p = some (.dK kvs)) ∨ ∃ kvs, H p = some (.dT kvs))) ∨ (T = "set" ∧ ∃ S n, H p = some (.set S n))
  | _ => False
theorem tyV_is {pins : List (Addr × Obj)} {σ : St} {H : Hp} {s : Shared} {T : String} {x : V} {v : Value} (I : Inv X pins σ H s) (r : RelV x v) (ty : tyV X.K T x H) :
    s.TypeIs v T ∧ ∀ a, v = .ref a → ∃ ob, s.heap.get? a = some ob ∧ ob.dict = none := by
  cases x with
  | str z =>
    obtain ⟨t, rfl⟩ := r
    cases (show T = "str" from ty)
    exact ⟨typeIs_str s z t, fun _ e => nomatch e⟩
  | int i =>
    obtain ⟨t, rfl⟩ := r
    cases (show T = "int" from ty)
    exact ⟨typeIs_int s i t, fun _ e => nomatch e⟩
  | ref p =>
    cases r
    rcases ty with ⟨rfl, xs, hq⟩ | ⟨rfl, o, hk, hc, hd⟩ | ⟨rfl, hk⟩ | ⟨rfl, S, n, hk⟩
    · obtain ⟨its, _, pl, _⟩ := I.list hq
      refine ⟨pl.isList.typeIs, fun a e => ?_⟩
      cases e
      obtain ⟨o, n, e, c, hd, _⟩ := pl
      exact ⟨o, e, hd⟩
    · refine ⟨⟨o, I.kIn p o hk, hc⟩, fun a e => ?_⟩
      cases e
      exact ⟨o, I.kIn _ o hk, hd⟩
    · have z : ∃ o, s.heap.get? p = some o ∧ o.ExactDict := by
        rcases hk with ⟨kvs, hk⟩ | ⟨kvs, hk⟩
        · obtain ⟨_, _, _, _, o, _, _, e, ex, _⟩ := I.hok p _ hk
          exact ⟨o, e, ex⟩
        · obtain ⟨_, _, _, _, o, _, _, e, ex, _⟩ := I.hok p _ hk
          exact ⟨o, e, ex⟩
      obtain ⟨o, e, ex⟩ := z
      refine ⟨⟨o, e, ex.1⟩, fun a e2 => ?_⟩
      cases e2
      exact ⟨o, e, ex.2.1⟩
    · obtain ⟨o, _, _, _, e, ex, _⟩ := I.hok p _ hk
      refine ⟨⟨o, e, ex.1⟩, fun a e2 => ?_⟩
      cases e2
      exact ⟨o, e, ex.2.1⟩
  | _ => exact False.elim ty
noncomputable def tBM (K : PySem.W.Frag) (T : String) (r : V → List V → Hp → VK → Prop) (to : TE) (t : TA) : TE := fun σ H Q => to σ H fun x H1 => tyV K T x H1 ∧ t σ H1 fun xs H2 => r x xs H2 Q
variable {o e : Expr} {es : List Expr} {to : TE} {t : TA} {name : Str} {apos cpos : Pos} {T id : String} {r : V → List V → Hp → VK → Prop}
theorem pe_bm (pa : PlainAttrs T) (slot : Slot T name id) (hty : typeOf (.builtin id) = pure (.type "method_descriptor")) (hm : MtR X id r) (ho : PE X o to) (ha : PA X (e :: es) t)
    (hbase : attributeBase o name X.env (eval o X.env) = eval o X.env := by rfl)
    (hfew : ((backTo cpos (starEach (e :: es) X.env)).all (fun x => !x.1) && (backToKw cpos (keywordEach [] X.env)).all (fun x => x.1.isSome)
      && decide ((e :: es).length + ([] : List Keyword).length + (if ([] : List Keyword).isEmpty then 0 else 1) < 30)) = true := by rfl)
    (hline : (apos.endLine == cpos.line) = true := by rfl) (hs : starEach (e :: es) X.env = (false, eval e X.env) :: starEach es X.env := by rfl) (hplain : (backTo cpos (starEach es X.env)).any (·.1) = false := by rfl) :
    PE X (.Call (.Attribute o name apos) (e :: es) [] cpos) (tBM X.K T r to t) := by
  intro pins s σ H Q I h
  refine wpAny_Call_method_late hbase hfew hline rfl (thn (ho pins s σ H _ I h) fun v s1 ⟨x, H1, I1, r1, ty, q1⟩ => ?_)
  obtain ⟨h1, h2⟩ := tyV_is I1 r1 ty
  refine ⟨T, id, pa, slot, hty, h1, h2, ?_⟩
  have hA := ha cpos pins s1 σ H1 _ I1 q1
  rw [hs] at hA ⊢
  refine Calls.callWith_builtin (by show (false || (backTo cpos (starEach es X.env)).any (·.1)) = false; rw [hplain] <;> rfl) (Calls.evalArgs_plain ?_)
  exact thn hA fun us s2 ⟨vs, H2, I2, r2, q2⟩ => hm pins s2 σ H2 x vs v us Q I2 r1 r2 q2
/- xs.append(e), list.index on a module's tuple .. are MtR facts of 06m -/
end
end L2
namespace L2
open PySem PySem.Spec PyProof.Rows
noncomputable def MtM (X : Cx) (id : String) (r : V → List V → Hp → VK → Prop) : Prop :=
  ∀ (pins : List (Addr × Obj)) (s : Shared) (σ : St) (H : Hp) (x : V) (xs : List V) (v : Value) (us : List Value) (Q : VK), Inv X pins σ H s → RelV x v → Vals xs us → r x xs H Q →
    wpAny (model X.prog X.w) X.A (call (.builtin id) (v :: us)) (EP X pins σ Q) X.xe s

/-! ### lists of values -/
theorem Vals.one : ∀ {x : V} {us : List Value}, Vals [x] us → ∃ u, us = [u] ∧ RelV x u
  | _, _, .cons r .nil => ⟨_, rfl, r⟩
theorem Vals.reverse {xs : List V} {us : List Value} (h : Vals xs us) : Vals xs.reverse us.reverse := by
  induction h with
  | nil => exact .nil
  | cons r t ih => rw [List.reverse_cons, List.reverse_cons]; exact Vals.append ih (.cons r .nil)
section
variable {X : Cx} {pins : List (Addr × Obj)} {σ : St} {H : Hp} {s : Shared} {l b : Addr} {xs ys zs : List V}
/-! ### the two steps: a tracked list is rewritten, a new list is laid -/
theorem Inv.lset {its its' : List Value} {n : Nat} {f : Array Value → Array Value} {t' : Nat} (I : Inv X pins σ H s) (hH : H l = some (.lst xs))
    (e : s.heap.get? l = some { cls := .type "list", data := .seq its.toArray n }) (hf : f its.toArray = its'.toArray) (hv : Vals ys its') (hz : ys.length ≤ sizeLine) :
    Inv X pins σ (upd H l (.lst ys)) { s with heap := s.heap.update l (Obj.mapSeq f), toks := t' } := by
  have q := PySem.IsL.update e f
  rw [hf] at q
  refine I.write (x := l) (e := l) (by rw [hH]; exact trivial) (.inl rfl) (fun b' u hb hu => (Heap.get?_update_other s.heap (Obj.mapSeq f) (Ne.symm hb)).trans hu) ⟨_, q⟩ ?_
  exact ⟨hz, its', _, hv, q⟩
theorem Inv.lnew {its : List Value} {t' : Nat} (I : Inv X pins σ H s) (hv : Vals ys its) (hz : ys.length ≤ sizeLine) :
    Inv X pins σ (upd H s.heap.objs.size (.lst ys)) { s with heap := s.heap.push { cls := .type "list", data := .seq its.toArray }, toks := t' } :=
  I.laid (fun _ _ q => Heap.get?_push_of_some _ q) (Nat.le_refl _) ⟨hz, its, 0, hv, Heap.get?_push_size _ rfl⟩
theorem Inv.fresh (I : Inv X pins σ H s) : H s.heap.objs.size = none := I.hok.fresh (Nat.le_refl _)
theorem Inv.lstM (I : Inv X pins σ H s) (hH : H l = some (.lst xs)) : xs.length ≤ sizeLine ∧ ∃ (its : List Value) (n : Nat), Vals xs its ∧ xs.length = its.length ∧ s.heap.get? l = some { cls := .type "list", data := .seq its.toArray n } := by
  obtain ⟨z, its, n, r, e⟩ := I.hok l _ hH
  exact ⟨z, its, n, r, r.length, e⟩

theorem notLongL {n : Nat} (h : n ≤ sizeLine) : Builtin.List.listTooLong n = false := by
  unfold Builtin.List.listTooLong
  exact decide_eq_false (by omega)
end
section
variable {X : Cx}
/-! ### methods -/
noncomputable def rAppend : V → List V → Hp → VK → Prop := fun x vs H Q => ∃ l xs y, x = .ref l ∧ vs = [y] ∧ H l = some (.lst xs) ∧ xs.length < sizeLine ∧ Q .non (upd H l (.lst (xs ++ [y])))
theorem mt_append : MtM X "list.append" rAppend := by
  intro pins s σ H x vs v us Q I rx rv h
  obtain ⟨l, xs, y, rfl, rfl, hH, hz, q⟩ := h
  cases rx
  obtain ⟨u, rfl, ru⟩ := rv.one
  obtain ⟨z, its, n, r, hl, e⟩ := I.lstM hH
  refine call_meets F.slot_list_append ⟨_, e, rfl⟩ F.entry_list_append (F.args_list_append_2 _ _) (PySem.list_append l its.toArray n u (by rw [List.size_toArray]; omega)) ⟨e, ?_⟩
  refine ⟨.non, _, I.lset (its' := its ++ [u]) hH e (by simp) (r.append (.cons ru .nil)) ?_, rfl, q⟩
  rw [List.length_append, List.length_singleton]
  omega

noncomputable def rExtend : V → List V → Hp → VK → Prop := fun x vs H Q => ∃ l b xs zs, x = .ref l ∧ vs = [.ref b] ∧ H l = some (.lst xs) ∧ H b = some (.lst zs) ∧ xs.length + zs.length ≤ sizeLine ∧ Q .non (upd H l (.lst (xs ++ zs)))
theorem mt_extend : MtM X "list.extend" rExtend := by
  intro pins s σ H x vs v us Q I rx rv h
  obtain ⟨l, b, xs, zs, rfl, rfl, hH, hB, hz, q⟩ := h
  cases rx
  obtain ⟨u, rfl, ru⟩ := rv.one
  cases ru
  obtain ⟨z, its, n, r, hl, e⟩ := I.lstM hH
  obtain ⟨z2, its2, n2, r2, hl2, e2⟩ := I.lstM hB
  have hsz : its.toArray.size + its2.toArray.size ≤ sizeLine := by rw [List.size_toArray, List.size_toArray]; omega
  have hlong : ¬ (!its.toArray.isEmpty && Builtin.List.listTooLong (its.toArray.size + its2.toArray.size)) = true := by
    rw [notLongL hsz, Bool.and_false]
    exact Bool.false_ne_true
  refine call_meets F.slot_list_extend ⟨_, e, rfl⟩ F.entry_list_extend (F.args_list_extend_2 _ _)
    (AutoSeq1.list_extend_list_list_0 l its.toArray n b its2.toArray n2 hlong (by rw [List.size_toArray]; omega) (by omega)) ⟨e, e2, ?_⟩
  refine ⟨.non, _, I.lset (its' := its ++ its2) hH e (by simp) (r.append r2) ?_, rfl, q⟩
  rw [List.length_append]
  omega

/-! ### list + list, list += list, list * int -/
noncomputable def rCat : R2 := fun x y H Q => ∃ l b xs zs, x = .ref l ∧ y = .ref b ∧ H l = some (.lst xs) ∧ H b = some (.lst zs) ∧ xs.length + zs.length ≤ sizeLine ∧ ∀ p, H p = none → Q (.ref p) (upd H p (.lst (xs ++ zs)))
theorem op_cat : OpR X (binaryOp .Add) rCat := by
  intro pins s σ H x y v u Q I rx ry h
  obtain ⟨l, b, xs, zs, rfl, rfl, hH, hB, hz, q⟩ := h
  cases rx
  cases ry
  obtain ⟨z, its, n, r, hl, e⟩ := I.lstM hH
  obtain ⟨z2, its2, n2, r2, hl2, e2⟩ := I.lstM hB
  refine PySem.P.add_list e e2 ?_ (by rw [List.size_toArray, List.size_toArray]; omega)
  have ea : its.toArray ++ its2.toArray = (its ++ its2).toArray := by simp
  rw [ea]
  exact ⟨.ref _, _, I.lnew (t' := s.toks) (r.append r2) (by rw [List.length_append]; omega), rfl, q _ I.fresh⟩
/-! ### del xs[i] -/
end
/-! ### xs[a:b] = ys -/
section
variable {prog : Program} {w : World} {A : Around} {E : Value → Shared → Prop} {s : Shared}
set_option maxRecDepth 100000 in
end
section
variable {X : Cx}
end
end L2
namespace Att
open PySem PySem.W PySem.Calls PyProof.Rows
/-! ### the script -/
theorem ints_of_wellAll {P : Params} {h : Heap} : ∀ (ns : List Int) (vs : List Value), WellAll P h vs (ns.map WData.int) → IntsAre vs ns := by
  intro ns
  induction ns with
  | nil =>
    intro vs w
    rw [List.map_nil] at w
    cases w
    exact .nil
  | cons n ns ih =>
    intro vs w
    rw [List.map_cons] at w
    cases w with
    | cons a b =>
      cases a
      exact .cons _ _ (ih _ b)

theorem script_of {l : OpenLaw} {n : Nat} (hn : l.most = some n) {P : Params} {h : Heap} {args : List WData} {vals : List Value}
    (hpre : l.row.toRowW.claim.pre args = true) (hwl : WellAll P h vals args) :
    ∃ a vs ns, vals = [Value.ref a] ∧ args = [WData.list (ns.map WData.int)] ∧ h.get? a = some { cls := .type "list", data := .seq vs.toArray } ∧ IntsAre vs ns ∧ ns.length ≤ n := by
  have hsh : WShape.hasAll [] args [.list .int] = true := (pre_splitW hpre).1
  have hc : l.pre.holds [] { args := args } = true := (pre_splitW hpre).2
  obtain ⟨d, r, rfl, h1, h2⟩ := hasAllW_cons hsh
  obtain rfl := hasAllW_nil h2
  obtain ⟨xs, rfl, h3⟩ := hasW_list h1
  obtain ⟨ns, rfl⟩ := items_int h3
  have hlen : ns.length ≤ n := by
    unfold OpenLaw.pre at hc
    have h4 : (WTm.not (.lt (.lit (.int (n : Int))) (.len (.arg 0)))).holds [] { args := [.list (ns.map .int)] } = true := by
      have h4 := (holds_andW hc).1
      rw [hn] at h4
      exact h4
    have h5 := condW_of h4 (w_not (w_lt w_lit (w_len_list (w_arg rfl))))
    rw [List.length_map] at h5
    refine Nat.le_of_not_lt fun q => ?_
    have q' : (n : Int) < ((ns.length : Nat) : Int) := by omega
    first
      | (rw [decide_eq_true q'] at h5; exact absurd h5 (by decide))
      | (simp at h5; omega)
  cases hwl with
  | cons w1 w2 =>
    cases w2
    cases w1 with
    | list ho hall => exact ⟨_, _, ns, rfl, rfl, ho, ints_of_wellAll ns _ hall, hlen⟩

theorem post_true (l : OpenLaw) (args : List WData) : l.row.toRowW.claim.post args (.bool true) args = true :=
  postW_of (r := l.row.toRowW) (X := (true == true))
    (show WShape.has [] (.bool true) .bool = true by first | rfl | decide | simp [WShape.has, WShape.arms, WShape.armsAll])
    (show (WTm.eq .res (.lit (.bool true))).value [] { args := args, res := some (.bool true), after := args } = some (.bool (true == true)) from w_eq_bool (w_res rfl) w_lit) rfl

/-! ### the attachment: holds_open's last premise (the goal 'hc' behind k_head) from a wpAny of the law's body -/
theorem attach_call {l : OpenLaw} {n : Nat} {q : Program} {loose : List Str} {XP : (Str → Option Value) → Heap → Prop} {YP : World → Heap → Prop} {d : DefRec}
    (hn : l.most = some n) (hdf : d.params.defaults = [])
    (call : ∀ (w : World) (s₀ s₁ : Shared) (mg mb : Str → Option Value) (fa : Addr) (o : Obj) (pm cd doc : Value) (a : Addr) (vs : List Value) (ns : List Int),
      Ground q loose [] XP w s₀ mg mb s₁.heap → YP w s₁.heap →
      s₁.heap.get? fa = some o → o.data = .func (docDef d.name d.params d.body d.scope pm cd doc) → s₁.heap.CodeRec cd d.name → mg d.name = some (.ref fa) →
      s₁.heap.get? a = some { cls := .type "list", data := .seq vs.toArray } → IntsAre vs ns → ns.length ≤ n → s₁.gens = #[] →
      codeAny (model l.prog w) callerA (.call (.ref fa) ⟨[.ref a], []⟩) (fun r s' => r = .ok (.ret (.bool true)) ∧ OldK s₁.heap s'.heap ∧ s'.os = s₁.os ∧ AllBare s'.gens) s₁) :
    WalkO q loose XP YP l.row.toRowW d [] (fun f vs => PySem.call f vs) := by
  intro w s₀ s₁ mg mb G Y fa o pm cd doc dV kV ho hd hcd hD hmg hg args vals as hpre hlay hrd hwl hlo
  obtain rfl : dV = .none := Dflts.none hD hdf
  obtain rfl : kV = .none := Dflts.noKw hD
  obtain ⟨a, vs, ns, rfl, rfl, hobj, hints, hlen⟩ := script_of hn hpre hwl
  refine enter_call (codeAny_mono (call w s₀ s₁ mg mb fa o pm cd doc a vs ns G Y ho (fd_plain hd) hcd hmg hobj hints hlen hg) fun r s' hq => ?_)
  obtain ⟨rfl, h2, h3, h4⟩ := hq
  exact ⟨.inl ⟨.bool true, .bool true, [], rfl, fun _ => rfl, .bool true, post_true l _, fun _ => ⟨List.Pairwise.nil, fun _ hm => (nomatch hm)⟩⟩, h2, h3, h4⟩

/-! ### rules over ANY heap (no ledger) from facts about the written part K: the library's own take a ledger (News) for what they write -/
section
variable {prog : Program} {w : World} {A : Around} {E : Value → Shared → Prop} {s : Shared} {K : Frag}
/-! the whole heap as the ledger: makes every rule that writes through a ledger a rule over any heap -/
noncomputable def ledger (h : Heap) (L d : Addr) : List (Addr × Obj) := (List.range h.objs.size).filterMap fun a => if a = L ∨ a = d then none else (h.get? a).map fun o => (a, o)
end
end Att
namespace L2
open PySem PySem.Spec PyProof.Rows
theorem vals_ints : ∀ {vs : List Value} {ns : List Int}, IntsAre vs ns → Vals (ns.map V.int) vs
  | _, _, .nil => .nil
  | _, _, .cons n t h => .cons ⟨t, rfl⟩ (vals_ints h)

end L2
namespace L2
open PySem PySem.Spec PyProof.Rows
noncomputable abbrev KOf {K : PySem.W.Frag} {h : Heap} (_ : K.In h) : PySem.W.Frag := K

end L2
/- THE LAST THEOREM (shape; LID, My.* are yours):
   My.Adr: a structure of the addresses that your layer names (classes, functions); My.Txt K t: a structure (Prop) of the equations over K;
   My.txt_mk : {K} {implicit addresses ..} (e1 : nsIn K mainGlobals "law" = some (some (.ref f))) (e2 : K.lookup f = some ⟨oc, od, .func (fnOf "law" "law" params body scope dV kV doc pm an cdv ct), sl⟩) (e3 : codeIn K cdv "law" = true) .. : ∃ t, My.Txt K t

set_option maxRecDepth 100000 in
set_option maxHeartbeats 0 in
theorem PySem.Challenge.cw_LID_holds : PySem.Challenge.rw_LID.Holds := by
  w_on; o_law; k_head; (case hw => w_witness2)
  k_fill
  refine L2.walk_of (l := PySem.Challenge.rw_LID) (n := 63) (k := 40) (x := "script") (CX := fun w => ..) (sp := fun _ => My.sp_law) rfl (by decide) rfl ⟨rfl, by decide, by decide⟩ (fun w h Y => PySem.W.kIn_of Y) ?F ?S ?C
  case F =>
    intro w mg fa h KX G hmg
    have T : ∃ t, My.Txt (L2.KOf KX) t := by
      dsimp only [L2.KOf]                          -- K must stand as «<heap const> w.params» for k_is
      refine' My.txt_mk ?e1 ?e2 ?e3 ..
      (case e1 => PySem.W.k_is)                    -- in the order: a name -> its address -> its object -> its parts
      (case e2 => PySem.W.k_is)
      ..
    obtain ⟨t, T⟩ := T
    have e0 := hmg.symm.trans (PySem.W.mg_of KX G T.law)
    cases e0                                       -- fa is the law's own address
    exact ⟨_, fun s u => .of_eq rfl, fun base kb nb => My.law_fn T kb nb⟩     -- if «.of_eq rfl» comes too early: refine' ⟨_, ?b, fun base kb nb => My.law_fn T kb nb⟩; exact fun s u => .of_eq rfl
  case S => exact fun w H a ns hl hO hS => ..
  case C => exact ..
(the tactic k_is has no namespace: write k_is) -/
/-! SHORT WORDS over the layer: a def of the text, its body, what a loop and a test want. -/
namespace L2
open PySem PySem.Spec PyProof.Rows
/-! ### the text by places -/
noncomputable def inClass (s : Stmt) (j : Nat) : Stmt := match s with
  | .ClassDef _ _ _ body _ _ _ _ _ _ _ => body.getD j (.Pass ⟨0, 0, 0, 0⟩)
  | _ => .Pass ⟨0, 0, 0, 0⟩
noncomputable def defArgs (s : Stmt) : Arguments := match s with
  | .FunctionDef _ a _ _ _ _ _ _ _ _ => a
  | _ => { posonlyargs := [], args := [], vararg := none, kwonlyargs := [], kw_defaults := [], kwarg := none, defaults := [] }
noncomputable def defBody (s : Stmt) : List Stmt := match s with
  | .FunctionDef _ _ b _ _ _ _ _ _ _ => b
  | _ => []
noncomputable def defScope (s : Stmt) : Scope := match s with
  | .FunctionDef _ _ _ _ _ _ sc _ _ _ => sc
  | _ => { kind := .function, names := [], isGenerator := false, isCoroutine := false }

/-! ### no exception leaves a def -/
noncomputable abbrev CX0 : CXT := fun _ _ _ _ _ _ => False
noncomputable abbrev E0 : St → XK := fun _ _ _ _ => False
/-! ### a def (or method) of the text as it stands behind the top -/
structure Fun (K : PySem.W.Frag) (x qual : Str) (st : Stmt) (f : Addr) (fd : FuncData) : Prop where
  ex : ∃ (oc : Value) (od : Option Addr) (kV doc pm : Value) (an : Option Addr) (cdv ct : Value) (osl : Array (Option Value)),
    fd = PySem.W.fnOf x qual (defArgs st) (defBody st) (defScope st) .none kV doc pm an cdv ct ∧ K.lookup f = some ⟨oc, od, .func fd, osl⟩ ∧ PySem.W.codeIn K cdv qual = true
  kp : PySem.W.keepIn K (.ref f) = true
section
variable {P : Program} {w : World} {K : PySem.W.Frag} {mg : Str → Option Value} {base : Heap}
theorem Fun.ok {x qual : Str} {st : Stmt} {f : Addr} {fd : FuncData} {N ps : List Str} {k : Nat} {sp : Sp} (F : Fun K x qual st f fd) (S : FnScope N ps (defScope st)) (len : ∀ vs H Q E, sp vs H Q E → vs.length = ps.length)
    (hbody : ∀ (cdv : Value) (A : Around) (outer : List Env) (s : Shared) (H : Hp) (vs : List V) (Q : VK) (E : XK), Room k (A.deeper (envOfC qual (defScope st) s.heap.objs.size f cdv)) → sp vs H Q E →
      ∃ t, PSs (cxOf CX0 P w K mg base N qual (defScope st) f cdv A outer s H E).nox (defBody st) t ∧ t { nx := fun _ H' => Q .non H', rt := Q } (start N vs) H) : FnOk P w K mg base CX0 (k + 1) f fd ps sp := by
  obtain ⟨oc, od, kV, doc, pm, an, cdv, ct, osl, rfl, lk, hcd⟩ := F.ex
  refine fn_of lk hcd S len fun A outer s H vs Q E hr hsp => ?_
  obtain ⟨t, h, q⟩ := hbody cdv A outer s H vs Q E hr hsp
  exact ⟨t, h.nox, q⟩
theorem Fun.binds {x qual : Str} {st : Stmt} {f : Addr} {fd : FuncData} {ps : List Str} (F : Fun K x qual st f fd)
    (h : ∀ (kV doc pm : Value) (an : Option Addr) (cdv ct : Value) (us : List Value), us.length = ps.length → bindArgs (PySem.W.fnOf x qual (defArgs st) (defBody st) (defScope st) .none kV doc pm an cdv ct) ⟨us, []⟩ = pure (ps.zip us)) : Binds K fd ps [] := by
  obtain ⟨oc, od, kV, doc, pm, an, cdv, ct, osl, rfl, lk, hcd⟩ := F.ex
  exact .all (h kV doc pm an cdv ct)
theorem fun_mk {x qual : Str} {st : Stmt} {f : Addr} {oc : Value} {od an : Option Addr} {osl : Array (Option Value)} {kV doc pm cdv ct : Value} (l : K.lookup f = some ⟨oc, od, .func (PySem.W.fnOf x qual (defArgs st) (defBody st) (defScope st) .none kV doc pm an cdv ct), osl⟩)
    (c : PySem.W.codeIn K cdv qual = true) (k : PySem.W.keepIn K (.ref f) = true) : Fun K x qual st f (PySem.W.fnOf x qual (defArgs st) (defBody st) (defScope st) .none kV doc pm an cdv ct) := ⟨⟨oc, od, kV, doc, pm, an, cdv, ct, osl, rfl, l, c⟩, k⟩
end
theorem hu_of {A : Around} {k : Nat} (hr : Room k A) : A.units + 1 < cLine := Nat.lt_of_le_of_lt (Nat.add_le_add_left (by decide : 1 ≤ 64) _) hr.units
theorem small1000 {n : Nat} (h : n ≤ 1000) : n < sizeLine := Nat.lt_of_le_of_lt h (by decide)

/-! ### expressions in short: the name that stands in the i-th slot -/
section
variable {X : Cx}
theorem pv (i : Nat) {x : Str} {pos : Pos} (hN : X.N[i]? = some x := by rfl) (hv : Vis X.env.scope x := by first | exact Or.inl rfl | exact Or.inr (Or.inl rfl) | exact Or.inr (Or.inr rfl)) (hd : (x == ("__debug__" : Str)) = false := by decide)
    (hcd : (x == ("__classdict__" : Str)) = false := by decide) : PE X (.Name x pos) (tVar i) := pe_var hN hv hd hcd
end
/-! ### tests -/
theorem iteF {A B : Prop} (h : B) : if false = true then A else B := by
  rw [if_neg Bool.false_ne_true]
  exact h
theorem iteT {A B : Prop} (h : A) : if true = true then A else B := by
  rw [if_pos rfl]
  exact h
theorem ite2 {c A B : Prop} [Decidable c] (h1 : c → A) (h2 : ¬ c → B) : if c then A else B := by
  by_cases h : c
  · rw [if_pos h]
    exact h1 h
  · rw [if_neg h]
    exact h2 h
/-! ### heaps -/
noncomputable def Same (H H' : Hp) : Prop := ∀ b o, H b = some o → H' b = some o
theorem Same.refl (H : Hp) : Same H H := fun _ _ h => h
theorem Same.trans {H H1 H2 : Hp} (a : Same H H1) (b : Same H1 H2) : Same H H2 := fun c o h => b c o (a c o h)
theorem Same.free {H H' : Hp} (e : Same H H') {l : Addr} (h : H' l = Option.none) : H l = Option.none := by
  cases q : H l with
  | none => rfl
  | some o =>
    rw [e l o q] at h
    cases h
end L2
-- MOD LayD
namespace L2
open PySem PySem.Spec PyProof.Rows
/-! ### lists of pairs as tables -/
section
variable {κ : Type} [DecidableEq κ]
noncomputable def valV (kvs : List (κ × V)) (k : κ) : Option V := (kvs.find? fun kv => decide (kv.1 = k)).map (·.2)
noncomputable def putK (kvs : List (κ × V)) (k : κ) (v : V) : List (κ × V) :=
  if (kvs.any fun kv => decide (kv.1 = k)) = true then kvs.map (fun kv => if kv.1 = k then (kv.1, v) else kv) else kvs ++ [(k, v)]
theorem valV_pos {p : κ × V} {r : List (κ × V)} {k : κ} (e : p.1 = k) : valV (p :: r) k = some p.2 := by simp [valV, List.find?_cons, e]
theorem valV_neg {p : κ × V} {r : List (κ × V)} {k : κ} (e : ¬ p.1 = k) : valV (p :: r) k = valV r k := by simp [valV, List.find?_cons, e]
theorem valV_any (k : κ) : ∀ kvs : List (κ × V), (kvs.any fun kv => decide (kv.1 = k)) = (valV kvs k).isSome
  | [] => rfl
  | p :: r => by
    rw [List.any_cons]
    by_cases e : p.1 = k
    · simp only [valV_pos e, decide_eq_true e, Bool.true_or, Option.isSome_some]
    · rw [valV_neg e, decide_eq_false e, Bool.false_or]; exact valV_any k r
theorem length_putK (kvs : List (κ × V)) (k : κ) (v : V) : (putK kvs k v).length ≤ kvs.length + 1 := by
  unfold putK
  split
  · rw [List.length_map]; omega
  · rw [List.length_append, List.length_cons, List.length_nil]; omega
theorem RelO.isSome_eq {o : Option V} {u : Option Value} (r : RelO o u) : o.isSome = u.isSome := by
  cases o with
  | none => cases u with
    | none => rfl
    | some _ => exact (show False from r).elim
  | some _ => cases u with
    | none => exact (show False from r).elim
    | some _ => rfl
theorem KV.val {kvs : List (κ × V)} {vs : List (κ × Value)} (r : KV kvs vs) (k : κ) : RelO (valV kvs k) (valueAt vs k) := by
  unfold KV at r
  induction r with
  | nil => exact True.intro
  | @cons p q ps qs h t ih =>
    obtain ⟨h1, h2⟩ := h
    by_cases e : p.1 = k
    · have e' : q.1 = k := h1.symm.trans e
      have b : valueAt (q :: qs) k = some q.2 := by simp [valueAt, List.find?_cons, e']
      rw [valV_pos e, b]; exact h2
    · have e' : ¬ q.1 = k := fun z => e (h1.trans z)
      have b : valueAt (q :: qs) k = valueAt qs k := by simp [valueAt, List.find?_cons, e']
      rw [valV_neg e, b]; exact ih
theorem KV.any {kvs : List (κ × V)} {vs : List (κ × Value)} (r : KV kvs vs) (k : κ) : (kvs.any fun kv => decide (kv.1 = k)) = vs.any fun kv => decide (kv.1 = k) := by
  unfold KV at r
  induction r with
  | nil => rfl
  | cons h t ih => rw [List.any_cons, List.any_cons, ih, h.1]
theorem KV.repl {kvs : List (κ × V)} {vs : List (κ × Value)} (r : KV kvs vs) (k : κ) {y : V} {u : Value} (ry : RelV y u) :
    KV (kvs.map fun kv => if kv.1 = k then (kv.1, y) else kv) (vs.map fun kv => if kv.1 = k then (kv.1, u) else kv) := by
  unfold KV at r ⊢
  induction r with
  | nil => exact .nil
  | @cons p q ps qs h t ih =>
    rw [List.map_cons, List.map_cons]
    refine .cons ?_ ih
    obtain ⟨h1, h2⟩ := h
    by_cases e : p.1 = k
    · rw [if_pos e, if_pos (h1.symm.trans e)]; exact ⟨h1, ry⟩
    · rw [if_neg e, if_neg (fun z => e (h1.trans z))]; exact ⟨h1, h2⟩
theorem KV.put {kvs : List (κ × V)} {vs : List (κ × Value)} (r : KV kvs vs) (k : κ) {y : V} {u : Value} (ry : RelV y u) : KV (putK kvs k y) (stored vs k u) := by
  unfold putK stored
  rw [r.any k]
  by_cases e : (vs.any fun kv => decide (kv.1 = k)) = true
  · rw [if_pos e, if_pos e]; exact r.repl k ry
  · rw [if_neg e, if_neg e]; exact Paired.snoc r ⟨rfl, ry⟩
theorem KV.length {kvs : List (κ × V)} {vs : List (κ × Value)} (r : KV kvs vs) : kvs.length = vs.length := Paired.length r
end
/-! ### a tracked dict, its keys ints and texts or tuples of these -/
theorem kV_is {P : Program} {w : World} {k : Key} {u : Value} (r : RelV (kV k) u) : (mixKind P w).is k u = true := by
  cases k with
  | inl i => obtain ⟨t, e⟩ := (show ∃ t, u = Value.int i t from r); subst e; exact mixKind_int P w i t
  | inr x => obtain ⟨t, e⟩ := (show ∃ t, u = Value.str x t from r); subst e; exact mixKind_str P w x t
theorem items_are {P : Program} {w : World} : ∀ {ks : List Key} {us : List Value}, Vals (ks.map kV) us → ItemsAre (mixKind P w) ks us
  | [], _, r => by rw [List.map_nil] at r; cases r; exact .nil
  | k :: ks, _, r => by
    rw [List.map_cons] at r
    cases r with
    | cons h t => exact .cons (kV_is h) (items_are t)

noncomputable abbrev KT (H : Hp) : List (List Key × V) → List (List Key × Addr × Value) → Prop := Paired fun p q => p.1 = q.1 ∧ H q.2.1 = some (.tup (p.1.map kV)) ∧ RelV p.2 q.2.2
theorem KT.val {H : Hp} {kvs : List (List Key × V)} {xs : List (List Key × Addr × Value)} (r : KT H kvs xs) (k : List Key) : RelO (valV kvs k) ((atKey xs k).map (·.2)) := by
  induction r with
  | nil => exact True.intro
  | @cons p q ps qs h t ih =>
    obtain ⟨h1, _, h2⟩ := h
    by_cases e : p.1 = k
    · have e' : q.1 = k := h1.symm.trans e
      have b : atKey (q :: qs) k = some q.2 := by simp [atKey, List.find?_cons, e']
      rw [valV_pos e, b]; exact h2
    · have e' : ¬ q.1 = k := fun z => e (h1.trans z)
      have b : atKey (q :: qs) k = atKey qs k := by simp [atKey, List.find?_cons, e']
      rw [valV_neg e, b]; exact ih
theorem KT.repl {H : Hp} {kvs : List (List Key × V)} {xs : List (List Key × Addr × Value)} (r : KT H kvs xs) (k : List Key) {y : V} {u : Value} (ry : RelV y u) :
    KT H (kvs.map fun kv => if kv.1 = k then (kv.1, y) else kv) (xs.map (putAt k u)) := by
  induction r with
  | nil => exact .nil
  | @cons p q ps qs h t ih =>
    rw [List.map_cons, List.map_cons]
    refine .cons ?_ ih
    obtain ⟨h1, h2, h3⟩ := h
    unfold putAt
    by_cases e : p.1 = k
    · rw [if_pos e, if_pos (h1.symm.trans e)]; exact ⟨h1, h2, ry⟩
    · rw [if_neg e, if_neg (fun z => e (h1.trans z))]; exact ⟨h1, h2, h3⟩
theorem KT.put {H : Hp} {kvs : List (List Key × V)} {xs : List (List Key × Addr × Value)} (r : KT H kvs xs) (k : List Key) {b : Addr} {y : V} {u : Value} (hb : H b = some (.tup (k.map kV))) (ry : RelV y u) :
    KT H (putK kvs k y) (storedH xs k b u) := by
  have e : (kvs.any fun kv => decide (kv.1 = k)) = (atKey xs k).isSome := by
    rw [valV_any, (r.val k).isSome_eq, Option.isSome_map]
  unfold putK storedH
  rw [e]
  by_cases q : (atKey xs k).isSome = true
  · rw [if_pos q, if_pos q]; exact r.repl k ry
  · rw [if_neg q, if_neg q]; exact Paired.snoc r ⟨rfl, hb, ry⟩
theorem KT.keeps {H H' : Hp} {kvs : List (List Key × V)} {xs : List (List Key × Addr × Value)} (r : KT H kvs xs) (ht : ∀ b ys, H b = some (.tup ys) → H' b = some (.tup ys)) : KT H' kvs xs :=
  Paired.mapP r fun _ _ z => ⟨z.1, ht _ _ z.2.1, z.2.2⟩

section
variable {P : Program} {w : World} {H : Hp} {h : Heap} {a : Addr}
theorem rd_of {u : HO} (ok : HOk P w H h) (e : Rd H a u) : ObjOk P w H h a u := e.ok ok
theorem dk_rd {kvs : List (Key × V)} (ok : HOk P w H h) (e : Rd H a (.dK kvs)) : kvs.length ≤ sizeLine ∧ (a == sysModules) = false ∧ ∃ vs, KV kvs vs ∧ h.DictOf (mixKind P w) a vs :=
  show ObjOk P w H h a (.dK kvs) from rd_of ok e
theorem dk_of {kvs : List (Key × V)} (ok : HOk P w H h) (e : H a = some (.dK kvs)) : kvs.length ≤ sizeLine ∧ (a == sysModules) = false ∧ ∃ vs, KV kvs vs ∧ h.DictOf (mixKind P w) a vs := dk_rd ok (.inl e)
theorem key_of {ks : List Key} (ok : HOk P w H h) (e : H a = some (.tup (ks.map kV))) : (tupleKind (mixKind P w)).is h ks a := by
  obtain ⟨_, its, r, o, h1, h2, n, h3⟩ := (show ObjOk P w H h a (.tup (ks.map kV)) from ok a _ e)
  exact ⟨o, its.toArray, n, h1, h2, h3, by simpa using items_are r⟩
theorem dt_rd {kvs : List (List Key × V)} (ok : HOk P w H h) (e : Rd H a (.dT kvs)) : kvs.length ≤ sizeLine ∧ (a == sysModules) = false ∧
    ∃ xs, KT H kvs xs ∧ h.DictOfH (tupleKind (mixKind P w)) a xs := by
  obtain ⟨z, y, xs, r, o, es, ep, h1, h2, h3, h4, h5⟩ := (show ObjOk P w H h a (.dT kvs) from rd_of ok e)
  refine ⟨z, y, xs, r, o, es, ep, h1, h2, h3, h4, fun x hx => ?_, h5⟩
  have all : ∀ {l : List (List Key × V)} {m : List (List Key × Addr × Value)}, KT H l m → ∀ x ∈ m, (tupleKind (mixKind P w)).is h x.1 x.2.1 := by
    intro l m q
    induction q with
    | nil => intro x hx; exact nomatch hx
    | @cons p q ps qs hq t ih =>
      intro x hx
      rcases List.mem_cons.mp hx with e | hx
      · subst e
        exact key_of ok (by rw [← hq.1]; exact hq.2.1)
      · exact ih x hx
  exact all r x hx
theorem dt_of {kvs : List (List Key × V)} (ok : HOk P w H h) (e : H a = some (.dT kvs)) : kvs.length ≤ sizeLine ∧ (a == sysModules) = false ∧
    ∃ xs, KT H kvs xs ∧ h.DictOfH (tupleKind (mixKind P w)) a xs := dt_rd ok (.inl e)
end
noncomputable def DGet (H : Hp) (a : Addr) (y : V) (r : Option V) : Prop :=
  (∃ kvs k, Rd H a (.dK kvs) ∧ y = kV k ∧ r = valV kvs k) ∨ ∃ kvs k b, Rd H a (.dT kvs) ∧ y = .ref b ∧ H b = some (.tup (k.map kV)) ∧ r = valV kvs k
noncomputable def DPut (H : Hp) (a : Addr) (y v : V) (H' : Hp) : Prop :=
  (∃ kvs k, H a = some (.dK kvs) ∧ y = kV k ∧ kvs.length < sizeLine ∧ H' = upd H a (.dK (putK kvs k v))) ∨
  ∃ kvs k b, H a = some (.dT kvs) ∧ y = .ref b ∧ H b = some (.tup (k.map kV)) ∧ kvs.length < sizeLine ∧ H' = upd H a (.dT (putK kvs k v))
theorem DGet.k {H : Hp} {a : Addr} {kvs : List (Key × V)} {k : Key} (e : H a = some (.dK kvs)) : DGet H a (kV k) (valV kvs k) := .inl ⟨kvs, k, .inl e, rfl, rfl⟩
theorem DGet.t {H : Hp} {a b : Addr} {kvs : List (List Key × V)} {k : List Key} (e : H a = some (.dT kvs)) (eb : H b = some (.tup (k.map kV))) : DGet H a (.ref b) (valV kvs k) := .inr ⟨kvs, k, b, .inl e, rfl, eb, rfl⟩
theorem DPut.k {H : Hp} {a : Addr} {kvs : List (Key × V)} {k : Key} {v : V} (e : H a = some (.dK kvs)) (hl : kvs.length < sizeLine) : DPut H a (kV k) v (upd H a (.dK (putK kvs k v))) := .inl ⟨kvs, k, e, rfl, hl, rfl⟩
theorem DPut.t {H : Hp} {a b : Addr} {kvs : List (List Key × V)} {k : List Key} {v : V} (e : H a = some (.dT kvs)) (eb : H b = some (.tup (k.map kV))) (hl : kvs.length < sizeLine) :
    DPut H a (.ref b) v (upd H a (.dT (putK kvs k v))) := .inr ⟨kvs, k, b, e, rfl, eb, hl, rfl⟩


section
variable {X : Cx} {pins : List (Addr × Obj)} {σ : St} {H : Hp} {s : Shared} {a : Addr} {y v : V} {u r : Value} {o : Option V} {A : Around} {E : Value → Shared → Prop}
theorem Inv.big (I : Inv X pins σ H s) : sysModules < s.heap.objs.size := by
  have h : mainGlobals < s.heap.objs.size := (I.mod.glob.keeps I.bk).lt
  exact Nat.lt_trans (by decide) h

theorem d_getItem {Q : Value → Shared → Prop} (hu : A.units + 1 < cLine) (I : Inv X pins σ H s) (g : DGet H a y (some v)) (ry : RelV y u) (h : ∀ w' s', Inv X pins σ H s' → RelV v w' → Q w' s') :
    wpAny (model X.prog X.w) A (getItem (.ref a) u) Q E s := by
  rcases g with ⟨kvs, k, e, ey, l⟩ | ⟨kvs, k, b, e, ey, eb, l⟩
  · subst ey
    obtain ⟨z, hd, vs, rel, dd⟩ := dk_rd I.hok e
    obtain ⟨w', hw, rw'⟩ := RelO.some_of (v := v) (o := valueAt vs k) (by rw [l]; exact rel.val k)
    exact wpAny_getItem_of (kV_is ry) dd.mapOf hw (h w' _ (I.tok _) rw')
  · subst ey
    cases (show u = Value.ref b from ry)
    obtain ⟨z, hd, xs, rel, dd⟩ := dt_rd I.hok e
    obtain ⟨w', hw, rw'⟩ := RelO.some_of (v := v) (o := (atKey xs k).map (·.2)) (by rw [l]; exact rel.val k)
    obtain ⟨p, hp, hp2⟩ := Option.map_eq_some_iff.mp hw
    refine wpAny_getItem_heap (tupleKind_room_in1 hu) (key_of I.hok eb) dd hp ?_
    rw [hp2]
    exact h w' _ (I.tok _) rw'
theorem d_in {Q : Value → Shared → Prop} (hu : A.units + 1 < cLine) (I : Inv X pins σ H s) (g : DGet H a y o) (ry : RelV y u) (h : ∀ s', Inv X pins σ H s' → Q (.bool o.isSome) s') :
    wpAny (model X.prog X.w) A (compareOp .In u (.ref a)) Q E s := by
  rcases g with ⟨kvs, k, e, ey, l⟩ | ⟨kvs, k, b, e, ey, eb, l⟩
  · subst ey
    obtain ⟨z, hd, vs, rel, dd⟩ := dk_rd I.hok e
    refine wpAny_in_of (kV_is ry) hd dd.mapOf ?_
    rw [← (rel.val k).isSome_eq, ← l]
    exact h _ (I.tok _)
  · subst ey
    cases (show u = Value.ref b from ry)
    obtain ⟨z, hd, xs, rel, dd⟩ := dt_rd I.hok e
    refine wpAny_in_heap (tupleKind_room_in1 hu) (key_of I.hok eb) hd dd ?_
    have q := (rel.val k).isSome_eq
    rw [Option.isSome_map] at q
    rw [← q, ← l]
    exact h _ (I.tok _)
theorem d_notIn {Q : Value → Shared → Prop} (hu : A.units + 1 < cLine) (I : Inv X pins σ H s) (g : DGet H a y o) (ry : RelV y u) (h : ∀ s', Inv X pins σ H s' → Q (.bool (!o.isSome)) s') :
    wpAny (model X.prog X.w) A (compareOp .NotIn u (.ref a)) Q E s := by
  rcases g with ⟨kvs, k, e, ey, l⟩ | ⟨kvs, k, b, e, ey, eb, l⟩
  · subst ey
    obtain ⟨z, hd, vs, rel, dd⟩ := dk_rd I.hok e
    refine wpAny_notIn_of (kV_is ry) hd dd.mapOf ?_
    rw [← (rel.val k).isSome_eq, ← l]
    exact h _ (I.tok _)
  · subst ey
    cases (show u = Value.ref b from ry)
    obtain ⟨z, hd, xs, rel, dd⟩ := dt_rd I.hok e
    refine wpAny_notIn_heap (tupleKind_room_in1 hu) (key_of I.hok eb) hd dd ?_
    have q := (rel.val k).isSome_eq
    rw [Option.isSome_map] at q
    rw [← q, ← l]
    exact h _ (I.tok _)
theorem d_write {h' : Heap} {t' : Nat} {ob : HO} (I : Inv X pins σ H s) (mu : Mut (H a)) (hs : Heap.SameBut a s.heap h') (he : ∃ q, h'.get? a = some q) (new : ObjOk X.prog X.w (upd H a ob) h' a ob) :
    Inv X pins σ (upd H a ob) { s with heap := h', toks := t' } :=
  I.write (x := a) (e := a) mu (.inl rfl) (fun b q hb z => (hs.2 b hb).trans z) he new
theorem dk_new {P : Program} {w : World} {H' : Hp} {h' : Heap} {kvs : List (Key × V)} {vs : List (Key × Value)} (z : kvs.length ≤ sizeLine) (hd : (a == sysModules) = false) (rel : KV kvs vs) (dd : h'.DictOf (mixKind P w) a vs) :
    ObjOk P w H' h' a (.dK kvs) := ⟨z, hd, vs, rel, dd⟩
theorem d_setItem {H' : Hp} {Q : Unit → Shared → Prop} (hu : A.units + 1 < cLine) (I : Inv X pins σ H s) (g : DPut H a y v H') (ry : RelV y u) (rv : RelV v r) (h : ∀ s', Inv X pins σ H' s' → Q () s') :
    wpAny (model X.prog X.w) A (setItem (.ref a) u r) Q E s := by
  rcases g with ⟨kvs, k, e, ey, l, eH⟩ | ⟨kvs, k, b, e, ey, eb, l, eH⟩
  · subst ey eH
    obtain ⟨z, hd, vs, rel, dd⟩ := dk_of I.hok e
    have hz : vs.length ≤ sizeLine := by rw [← rel.length]; exact z
    have hl : (putK kvs k v).length ≤ sizeLine := by have := length_putK kvs k v; omega
    refine wpAny_setItem_pairs (hsz := hz) (kV_is ry) dd fun h' dd' hs => h _ ?_
    have he : ∃ q, h'.get? a = some q := let ⟨q, _, _, hq, _⟩ := dd'; ⟨q, hq⟩
    exact d_write I (by rw [e]; exact True.intro) hs he (dk_new hl hd (rel.put k rv) dd')
  · subst ey eH
    cases (show u = Value.ref b from ry)
    obtain ⟨z, hd, xs, rel, dd⟩ := dt_of I.hok e
    have hz : xs.length ≤ sizeLine := by rw [← Paired.length rel]; exact z
    have hl : (putK kvs k v).length ≤ sizeLine := by have := length_putK kvs k v; omega
    refine wpAny_setItem_heap (hsz := hz) (tupleKind_room_in1 hu) (key_of I.hok eb) dd fun h' dd' hs => h _ ?_
    obtain ⟨q, es, ep, hq, h2, h3, h4, _, h5⟩ := dd'
    refine d_write I (by rw [e]; exact True.intro) hs ⟨q, hq⟩ ⟨hl, hd, _, (rel.put k eb rv).keeps fun c ys ec => ?_, q, es, ep, hq, h2, h3, h4, h5⟩
    rw [upd_ne (ne_of ec e (fun z => nomatch z))]
    exact ec
end
section
variable {X : Cx} {pins : List (Addr × Obj)} {σ : St} {H : Hp} {s : Shared} {a : Addr} {kvs : List (Key × V)} {k : Key} {u : Value} {A : Around} {E : Value → Shared → Prop}
theorem d_len {Q : Value → Shared → Prop} (I : Inv X pins σ H s) (e : Rd H a (.dK kvs)) (h : ∀ t s', Inv X pins σ H s' → Q (.int kvs.length t) s') : wpAny (model X.prog X.w) A (call (.builtin "len") [.ref a]) Q E s := by
  obtain ⟨z, hd, vs, rel, dd⟩ := dk_rd I.hok e
  refine call_len_dict hd dd (by rw [← rel.length]; rw [sizeLine_eq] at z; omega) ?_
  rw [← rel.length]
  exact h _ _ (I.tok _)
end
/-! ### readings and rules -/
noncomputable def NoSl (i : Expr) : Prop := ∀ ov iv, subscripted i false ov iv = operate [ov, iv] (getItem ov iv)
theorem subD_of {prog : Program} {w : World} {A : Around} {E : Value → Shared → Prop} {s : Shared} {env : Env} {value slice : Expr} {pos : Pos} {T id : String} {Q : Value → Shared → Prop}
    (hl : typeLookup (.type T) "__getitem__" = pure (some (.builtin id))) (hs : NoSl slice)
    (h : wpAny (model prog w) A (eval value env) (fun o s₁ => wpAny (model prog w) A (eval slice env) (fun i s₂ => s₂.TypeIs o T ∧ wpAny (model prog w) A (getItem o i) Q E s₂) E s₁) E s) :
    wpAny (model prog w) A (eval (.Subscript value slice pos) env) Q E s := by
  refine Subscript_ (wpAny_mono h (fun o s₁ h₁ => wpAny_mono h₁ (fun i s₂ h₂ => ?_) fun _ _ x => x) fun _ _ x => x)
  obtain ⟨hT, h₂⟩ := h₂
  unfold subscriptTail
  refine wpAny_bind ?_
  rw [getitemInPython_of_ne hT.not_modules]
  refine wpAny_bind (wpAny_specialOf hT hl ?_)
  have fin : wpAny (model prog w) A (subscripted slice false o i) (fun r s₃ => wpAny (model prog w) A (letTemporaryGo value o r >>= fun _ => pure r) Q E s₃) E s₂ := by
    rw [hs o i]
    exact wpAny_operating (wpAny_mono h₂ (fun r s₃ h₃ => wpAny_bind (wpAny_letTemporaryGo (wpAny_pure h₃))) fun _ _ x => x)
  first
    | exact wpAny_pure (wpAny_bind fin)
    | exact wpAny_bind (wpAny_pure (wpAny_bind fin))
    | exact wpAny_bind fin

theorem dict_typeIs {X : Cx} {pins : List (Addr × Obj)} {σ : St} {H : Hp} {s : Shared} {a : Addr} {y : V} {o : Option V} (I : Inv X pins σ H s) (g : DGet H a y o) : s.TypeIs (.ref a) "dict" := by
  rcases g with ⟨kvs, k, e, _, _⟩ | ⟨kvs, k, b, e, _, _, _⟩
  · obtain ⟨_, _, vs, _, dd⟩ := dk_rd I.hok e
    exact dd.typeIs
  · obtain ⟨_, _, xs, _, dd⟩ := dt_rd I.hok e
    exact dd.typeIs
noncomputable def tDGet (td ty : TE) : TE := fun σ H Q => td σ H fun x H1 => ty σ H1 fun y H2 => ∃ a v, x = .ref a ∧ DGet H2 a y (some v) ∧ Q v H2
noncomputable def tDIn (ty td : TE) : TE := fun σ H Q => ty σ H fun y H1 => td σ H1 fun x H2 => ∃ a o, x = .ref a ∧ DGet H2 a y o ∧ Q (.bl o.isSome) H2
noncomputable def tDNotIn (ty td : TE) : TE := fun σ H Q => ty σ H fun y H1 => td σ H1 fun x H2 => ∃ a o, x = .ref a ∧ DGet H2 a y o ∧ Q (.bl (!o.isSome)) H2
noncomputable def sDPut (td ty tv : TE) : TS := fun D σ H => tv σ H fun v H1 => td σ H1 fun x H2 => ty σ H2 fun y H3 => ∃ a H4, x = .ref a ∧ DPut H3 a y v H4 ∧ D.nx σ H4
section
variable {X : Cx} {o i e value : Expr} {pos pos' tpos : Pos} {td ty tv : TE}
theorem pe_dget (hu : X.A.units + 1 < cLine) (ho : PE X o td) (hi : PE X i ty) (hs : NoSl i) : PE X (.Subscript o i pos) (tDGet td ty) := by
  intro pins s σ H Q I h
  refine subD_of PySem.F.slot_dict_getitem.lookup hs (thn (ho pins s σ H _ I h) fun u s1 ⟨x, H1, I1, rx, q1⟩ => thn (hi pins s1 σ H1 _ I1 q1) fun iv s2 ⟨y, H2, I2, ry, a, v, ex, g, q2⟩ => ?_)
  subst ex
  obtain rfl : u = Value.ref a := rx
  exact ⟨dict_typeIs I2 g, d_getItem hu I2 g ry fun w' s3 I3 rw' => ⟨v, H2, I3, rw', q2⟩⟩
theorem pc_din (hu : X.A.units + 1 < cLine) (hi : PE X i ty) (ho : PE X o td) : PC X .In i o (tDIn ty td) := by
  intro pins s σ H Q I h
  refine thn (hi pins s σ H _ I h) fun iv s1 ⟨y, H1, I1, ry, q1⟩ => thn (ho pins s1 σ H1 _ I1 q1) fun u s2 ⟨x, H2, I2, rx, a, ov, ex, g, q2⟩ => ?_
  subst ex
  obtain rfl : u = Value.ref a := rx
  exact d_in hu I2 g ry fun s3 I3 => ⟨.bl ov.isSome, H2, I3, rfl, q2⟩
theorem pc_dnotin (hu : X.A.units + 1 < cLine) (hi : PE X i ty) (ho : PE X o td) : PC X .NotIn i o (tDNotIn ty td) := by
  intro pins s σ H Q I h
  refine thn (hi pins s σ H _ I h) fun iv s1 ⟨y, H1, I1, ry, q1⟩ => thn (ho pins s1 σ H1 _ I1 q1) fun u s2 ⟨x, H2, I2, rx, a, ov, ex, g, q2⟩ => ?_
  subst ex
  obtain rfl : u = Value.ref a := rx
  exact d_notIn hu I2 g ry fun s3 I3 => ⟨.bl (!ov.isSome), H2, I3, rfl, q2⟩
theorem ps_dput (hu : X.A.units + 1 < cLine) (ho : PE X o td) (hi : PE X i ty) (hv : PE X value tv) (hs : swapsWith value (some (.Subscript o i pos')) pos.line X.env = pure false) :
    PS X (.Assign [.Subscript o i pos'] value pos) (sDPut td ty tv) := by
  intro pins s σ H D I h
  refine wpAny_Assign_Subscript (thn (hv pins s σ H _ I h) fun r s1 ⟨v, H1, I1, rv, q1⟩ => thn (ho pins s1 σ H1 _ I1 q1) fun u s2 ⟨x, H2, I2, rx, q2⟩ => thn (hi pins s2 σ H2 _ I2 q2) fun iv s3 ⟨y, H3, I3, ry, a, H4, ex, g, q3⟩ => ?_) hs
  subst ex
  obtain rfl : u = Value.ref a := rx
  exact d_setItem hu I3 g ry rv fun s4 I4 => ⟨σ, H4, I4, q3⟩
end
/-! ### displays -/
theorem dk_empty {P : Program} {w : World} {H : Hp} (h : Heap) (hb : sysModules < h.objs.size) : ObjOk P w H (h.push { cls := .type "dict", data := .dict #[] }) h.objs.size (.dK []) :=
  ⟨Nat.zero_le _, beq_eq_false_iff_ne.mpr (Ne.symm (Nat.ne_of_lt hb)), [], .nil, Heap.DictOf.new h⟩
noncomputable def tDNewK : TE := fun _ H Q => ∀ p, H p = none → Q (.ref p) (upd H p (.dK []))
section
variable {X : Cx} {pos : Pos}
theorem pe_dnewK : PE X (.Dict [] [] pos) tDNewK := fun pins s σ H Q I h =>
  wpAny_Dict_empty ⟨.ref s.heap.objs.size, _, I.laid (a := s.heap.objs.size) (o := .dK []) (t' := s.toks) (fun _ _ q => Heap.get?_push_of_some _ q) (Nat.le_refl _) (dk_empty s.heap I.big), rfl, h _ (I.hok.fresh (Nat.le_refl _))⟩
end
/-! ### methods -/
noncomputable def IsD (H : Hp) (a : Addr) : Prop := (∃ kvs, Rd H a (.dK kvs)) ∨ ∃ kvs, Rd H a (.dT kvs)
theorem isD_at {X : Cx} {pins : List (Addr × Obj)} {σ : St} {H : Hp} {s : Shared} {a : Addr} (I : Inv X pins σ H s) (d : IsD H a) :
    s.TypeIs (.ref a) "dict" ∧ (∀ b, Value.ref a = .ref b → ∃ ob, s.heap.get? b = some ob ∧ ob.dict = none) ∧ (a == sysModules) = false := by
  rcases d with ⟨kvs, e⟩ | ⟨kvs, e⟩
  · obtain ⟨_, hd, vs, _, dd⟩ := dk_rd I.hok e
    refine ⟨dd.typeIs, fun b q => ?_, hd⟩
    cases q
    obtain ⟨ob, _, _, h1, h2, _⟩ := dd
    exact ⟨ob, h1, h2.2.1⟩
  · obtain ⟨_, hd, xs, _, dd⟩ := dt_rd I.hok e
    refine ⟨dd.typeIs, fun b q => ?_, hd⟩
    cases q
    obtain ⟨ob, _, _, h1, h2, _⟩ := dd
    exact ⟨ob, h1, h2.2.1⟩

section
variable {X : Cx} {pins : List (Addr × Obj)} {σ : St} {H : Hp} {s : Shared} {a : Addr} {y d : V} {u r : Value} {o : Option V} {A : Around} {E : Value → Shared → Prop}
end
section
variable {X : Cx} {o e f : Expr} {apos cpos : Pos} {td ty tx : TE}
end
/-! ### dict(d): a copy -/
section
variable {X : Cx} {pins : List (Addr × Obj)} {σ : St} {H : Hp} {s : Shared} {a : Addr} {kvs : List (Key × V)} {A : Around} {E : Value → Shared → Prop}
end
section
variable {X : Cx} {pins : List (Addr × Obj)} {σ : St} {H : Hp} {s : Shared} {a : Addr} {y : V} {u : Value} {A : Around} {E : Value → Shared → Prop}
end
end L2
-- MOD Cmp
/-! Comprehensions over one clause, for the hand layer. -/
namespace L2
open PySem PySem.Spec PyProof.Rows
noncomputable def PFs (X : Cx) (ifs : List Expr) (t : TT) : Prop :=
  ∀ (pins : List (Addr × Obj)) (s : Shared) (σ : St) (H : Hp) (Q : Bool → Hp → Prop), Inv X pins σ H s → t σ H Q →
    wpAny (model X.prog X.w) X.A (forIn ifs true fun c r => if r = true then do let ok ← isTrue c X.env (eval c X.env); pure (ForInStep.yield ok) else pure (ForInStep.yield r)) (TP X pins σ Q) X.xe s
noncomputable def tYes : TT := fun _ H Q => Q true H
theorem pf_nil {X : Cx} : PFs X [] tYes := fun _ _ _ H _ I h => wpAny_tests_nil ⟨H, I, h⟩
theorem pf_one {X : Cx} {c : Expr} {t : TT} (h : PT X c t) : PFs X [c] t := fun pins s σ H Q I q => wpAny_tests_one (h pins s σ H Q I q)

section
variable {prog : Program} {w : World} {A : Around} {R : Result → Shared → Prop}
theorem comp_loop {elt tg iter : Expr} {ifs : List Expr} {sc : Scope} {pos : Pos} {it acc : Value} {env : Env} (J : Nat → Shared → Prop) (N : Value → Shared → Prop)
    (hN : N = notedBy (model prog w) A env fun e z => R (.error e) z)
    (turn : ∀ k z, J k z → wpAny (model prog w) A (pyNext it) (fun r z1 => match r with
      | none => R (.ok .next) z1
      | some v => wpAny (model prog w) A (letOwnedTupleGo tg it v) (fun _ z2 => wpAny (model prog w) A (assign tg env v) (fun _ z3 =>
          wpAny (model prog w) A (forIn ifs true fun c r => if r = true then do let ok ← isTrue c env (eval c env); pure (ForInStep.yield ok) else pure (ForInStep.yield r)) (fun ok z4 =>
            if ok = true then wpAny (model prog w) A (eval elt env) (fun y z5 => wpAny (model prog w) A (call (.builtin "list.append") [acc, y]) (fun _ z6 => ∃ j, j < k ∧ J j z6) N z5) N z4
            else ∃ j, j < k ∧ J j z4) N z3) N z2) N z1) N z)
    {z : Shared} (k : Nat) (h : J k z) : codeAny (model prog w) A (.compLoop (.ListComp elt [⟨tg, iter, ifs, 0⟩] sc pos) 0 it acc env) R z := by
  subst hN
  refine codeAny_loop rfl J (fun k z hJ => ?_) k h
  show wpAny _ A ((compTurn (.ListComp elt [⟨tg, iter, ifs, 0⟩] sc pos) 0 it acc env).onRaise (fun x => do noteFrame x env; theTreesLotGoes x)) _ _ z
  refine wpAny_noted ?_
  rw [compTurn_list]
  refine wpAny_bind (wpAny_standAt (wpAny_bind (thn (turn k z hJ) fun r z1 h1 => ?_)))
  cases r with
  | none => exact wpAny_pure h1
  | some v =>
    refine wpAny_bind (thn h1 fun _ z2 h2 => ?_)
    refine wpAny_bind (thn h2 fun _ z3 h3 => ?_)
    refine wpAny_bind (thn h3 fun ok z4 h4 => ?_)
    cases ok with
    | false => exact wpAny_pure ⟨rfl, h4⟩
    | true => exact wpAny_bind (wpAny_bind (thn h4 fun y z5 h5 => wpAny_bind (thn h5 fun _ z6 h6 => wpAny_pure (wpAny_pure ⟨rfl, h6⟩))))
end
noncomputable def cxComp (X : Cx) (sc : Scope) (cl : List (Str × Addr)) (T : List Str) (C : Addr) (s2 : Shared) (H2 : Hp) (fp : List Addr) : Cx where
  prog := X.prog
  w := X.w
  K := X.K
  mg := X.mg
  base := X.base
  A := X.A
  N := X.N ++ T
  s₀ := s2
  H₀ := H2
  env := compEnvC sc cl C X.env
  outer := X.stack
  stack := X.stack
  ex := fp
  fn := fun _ => false
  calm := X.calm
  pn := []
  xe := fun _ _ => False

noncomputable def ClOk (X : Cx) : List (Str × Addr) → Prop
  | [] => True
  | p :: r => X.env.cells.lookup p.1 = some p.2 ∧ ClOk X r
theorem ClOk.look {X : Cx} : ∀ {cl : List (Str × Addr)}, ClOk X cl → ∀ x c, cl.lookup x = some c → X.env.cells.lookup x = some c
  | [], _, _, _, h => by cases h
  | p :: r, k, x, c, h => by
    cases e : x == p.1 with
    | true =>
      rw [List.lookup_cons, e] at h
      have ex : x = p.1 := by simpa using e
      rw [ex, k.1]
      exact h
    | false =>
      rw [List.lookup_cons, e] at h
      exact ClOk.look k.2 x c h

structure ScOk (X : Cx) (sc : Scope) (cl : List (Str × Addr)) (T : List Str) : Prop where
  clos : closureFor sc X.env = pure cl
  cell : ∀ y ∈ sc.names, y.2 ≠ .cell
  kind : sc.kind = .function
  names : ∀ x ∈ sc.names, x.2 = .local → sc.names.lookup x.1 = some .local
  cls : ClOk X cl
  has : ∀ x ∈ sc.names, x.2 = .free → (cl.lookup x.1).isSome = true ∧ (X.env.scope.names.lookup x.1 = some .cell ∨ X.env.scope.names.lookup x.1 = some .free)
  out : ∀ x ∈ X.N, sc.names.lookup x ≠ some .local

theorem relab_look {sc : Scope} {env : Env} {x : Str} {k : NameKind} : ∀ {names : List (Str × NameKind)},
    (names.map fun (n, k) => if (k == NameKind.free && env.scope.kind == .function && env.kindOf n == some .cell) then (n, NameKind.cell) else (n, k)).lookup x = some k →
    ∃ j, (x, j) ∈ names ∧ names.lookup x = some j ∧ (j = k ∨ (j = .free ∧ k = .cell))
  | [], h => by cases h
  | (n, j) :: r, h => by
    cases e : x == n with
    | true =>
      have ex : x = n := by simpa using e
      subst ex
      refine ⟨j, List.mem_cons_self, by rw [List.lookup_cons, e], ?_⟩
      have h' : List.lookup x ((if (j == NameKind.free && env.scope.kind == .function && env.kindOf x == some .cell) = true then (x, NameKind.cell) else (x, j)) :: _) = some k := h
      by_cases c : (j == NameKind.free && env.scope.kind == .function && env.kindOf x == some .cell) = true
      · rw [if_pos c, List.lookup_cons, e] at h'
        have c1 : (j == NameKind.free) = true := by
          cases q : (j == NameKind.free) with
          | true => rfl
          | false => rw [q] at c; simp at c
        exact .inr ⟨by simpa using c1, (Option.some.inj h').symm⟩
      · rw [if_neg c, List.lookup_cons, e] at h'
        exact .inl (Option.some.inj h')
    | false =>
      have h' : List.lookup x ((if (j == NameKind.free && env.scope.kind == .function && env.kindOf n == some .cell) = true then (n, NameKind.cell) else (n, j)) :: _) = some k := h
      have h2 : (List.map (fun (n, k) => if (k == NameKind.free && env.scope.kind == .function && env.kindOf n == some .cell) then (n, NameKind.cell) else (n, k)) r).lookup x = some k := by
        by_cases c : (j == NameKind.free && env.scope.kind == .function && env.kindOf n == some .cell) = true
        · rw [if_pos c, List.lookup_cons, e] at h'; exact h'
        · rw [if_neg c, List.lookup_cons, e] at h'; exact h'
      obtain ⟨i, m, l, q⟩ := relab_look (sc := sc) (env := env) h2
      exact ⟨i, List.mem_cons_of_mem _ m, by rw [List.lookup_cons, e]; exact l, q⟩

section
variable {X : Cx} {sc : Scope} {cl : List (Str × Addr)} {T : List Str}
theorem ScOk.seen (S : ScOk X sc cl T) {C : Addr} {x : Str} (h : (compEnvC sc cl C X.env).scope.names.lookup x = some .cell ∨ (compEnvC sc cl C X.env).scope.names.lookup x = some .free) :
    (∃ c, cl.lookup x = some c) ∧ (X.env.scope.names.lookup x = some .cell ∨ X.env.scope.names.lookup x = some .free) := by
  have key : ∀ k, (k = .cell ∨ k = .free) → (relabel sc X.env).names.lookup x = some k → (∃ c, cl.lookup x = some c) ∧ (X.env.scope.names.lookup x = some .cell ∨ X.env.scope.names.lookup x = some .free) := by
    intro k hk h
    obtain ⟨j, m, l, q⟩ := relab_look (sc := sc) (env := X.env) h
    have jf : j = .free := by
      rcases q with rfl | ⟨q, _⟩
      · rcases hk with rfl | rfl
        · exact absurd rfl (S.cell _ m)
        · rfl
      · exact q
    subst jf
    obtain ⟨a, b⟩ := S.has _ m rfl
    exact ⟨Option.isSome_iff_exists.mp a, b⟩
  rcases h with h | h
  · exact key _ (.inl rfl) h
  · exact key _ (.inr rfl) h
theorem ScOk.local_out (S : ScOk X sc cl T) {C : Addr} {x : Str} (hx : x ∈ X.N) : (compEnvC sc cl C X.env).scope.names.lookup x ≠ some .local := by
  intro h
  obtain ⟨j, m, l, q⟩ := relab_look (sc := sc) (env := X.env) h
  rcases q with rfl | ⟨_, q⟩
  · exact S.out x hx l
  · cases q

variable {pins : List (Addr × Obj)} {σ : St} {H : Hp} {s : Shared} {fp : List Addr} {C : Addr}
theorem comp_ok (S : ScOk X sc cl T) (I : Inv X pins σ H s) (hf : ∀ b ∈ fp, FpOk X pins H b) (hl : ∀ b ∈ fp, b < s.heap.objs.size) (hC : s.heap.objs.size ≤ C) : (cxComp X sc cl T C s H fp).Ok where
  mod := I.ok.mod
  kind := S.kind
  glob := I.ok.glob
  blt := I.ok.blt
  above := hC
  inj := fun x y c h1 h2 => I.ok.inj x y c (S.cls.look x c h1) (S.cls.look y c h2)
  has := fun x hx => (S.seen hx).1
  cab := fun x c h => by cases h
  hd := I.ok.hd
  frames := I.ok.frames
  stk := .inl rfl
  exf := fun b hb => ⟨Nat.ne_of_lt (Nat.lt_of_lt_of_le (hl b hb) hC), fun x c h => (hf b hb).2.2.2.2.1 x c (S.cls.look x c h)⟩
  bs := I.bs
  bsz := Nat.le_trans I.ok.bsz I.sz
  noex := fun b o e hb => by
    rcases (hf b hb).2.2.2.1 with z | z
    · exact I.ok.noex b o e z
    · exact absurd (Nat.lt_of_lt_of_le (Heap.lt_size e) (Nat.le_trans I.ok.bsz z)) (Nat.lt_irrefl _)
  exfs := fun b hb z => by
    rcases List.mem_cons.mp (I.stkSub b z) with e | e
    · exact (hf b hb).2.1 e
    · exact (hf b hb).2.2.1 e
  funs := I.stack
  frf := I.stkFree

theorem comp_inv (S : ScOk X sc cl T) (I : Inv X pins σ H s) (hf : ∀ b ∈ fp, FpOk X pins H b) (hl : ∀ b ∈ fp, b < s.heap.objs.size) (hC : s.heap.objs.size ≤ C) {h1 : Heap} {m : Str → Option Value} {t1 : Nat}
    (k : ∀ b o, s.heap.get? b = some o → h1.get? b = some o) (hn : h1.Ns C m) : Inv (cxComp X sc cl T C s H fp) [] (σ ++ List.replicate T.length none) H { s with heap := h1, toks := t1 } where
  ok := comp_ok S I hf hl hC
  os := rfl
  bare := I.bare
  base := Un.kept k
  loc := by
    refine ⟨m, hn, fun i x v e1 e2 e3 => ?_⟩
    have hi : i < σ.length := by
      by_cases hi : i < σ.length
      · exact hi
      · rw [List.getElem?_append_right (Nat.not_lt.mp hi), List.getElem?_replicate] at e2
        split at e2 <;> cases e2
    rw [List.getElem?_append_left hi] at e2
    have e1' : X.N[i]? = some x := by
      have e : (X.N ++ T)[i]? = some x := e1
      rwa [List.getElem?_append_left (by rw [← I.len]; exact hi)] at e
    have hx : x ∈ X.N := List.mem_of_getElem? e1'
    have e3' : (compEnvC sc cl C X.env).scope.names.lookup x = some .cell ∨ (compEnvC sc cl C X.env).scope.names.lookup x = some .free := by
      rcases e3 with z | z | z
      · exact absurd z (S.local_out hx)
      · exact .inl z
      · exact .inr z
    obtain ⟨⟨c, hc⟩, ko⟩ := S.seen e3'
    obtain ⟨m0, hn0, hl0⟩ := I.loc
    obtain ⟨u, r, l⟩ := hl0 i x v e1' e2 (.inr ko)
    refine ⟨u, r, .inr ⟨e3', c, hc, ?_⟩⟩
    have hc' := S.cls.look x c hc
    rcases l with ⟨kl, _⟩ | ⟨_, c', hc2, z⟩
    · have kl' : X.env.scope.names.lookup x = some .local := kl
      rcases ko with q | q
      · rw [q] at kl'; cases kl'
      · rw [q] at kl'; cases kl'
    · rw [hc'] at hc2; cases hc2
      obtain ⟨o, ho, hd⟩ := z
      exact ⟨o, k _ _ ho, hd⟩
  cell := fun x c hc => by
    obtain ⟨v, o, ho, hd⟩ := I.cell x c (S.cls.look x c hc)
    exact ⟨v, o, k _ _ ho, hd⟩
  free := I.hok.fresh hC
  freeC := fun x c hc => I.freeC x c (S.cls.look x c hc)
  pin := fun p hp => absurd (show p ∈ ([] : List (Addr × Obj)) from hp) (by simp)
  hok := I.hok.kept k
  len := by
    show (σ ++ List.replicate T.length none).length = (X.N ++ T).length
    rw [List.length_append, List.length_append, List.length_replicate, I.len]

theorem comp_out (S : ScOk X sc cl T) (I : Inv X pins σ H s) (hf : ∀ b ∈ fp, FpOk X pins H b) {D : Addr} (hD : s.heap.objs.size ≤ D) (hC : s.heap.objs.size ≤ C) (hDC : D ≠ C) {s1 : Shared} {H1 : Hp} {σ1 : St} {p1 : List (Addr × Obj)} {ys : List V} {its : List Value}
    (J : Inv (cxComp X sc cl T C s H fp) p1 σ1 H1 s1) (hH : H1 D = none) (rv : Vals ys its) (hz : ys.length ≤ sizeLine) (hget : s1.heap.get? D = some (LCg.lst its)) :
    Inv X pins σ (upd H1 D (.lst ys)) s1 := by
  have fD : H D = none := I.hok.fresh hD
  have nD : ∀ b o, s.heap.get? b = some o → b ≠ D := fun b o e => Nat.ne_of_lt (Nat.lt_of_lt_of_le (Heap.lt_size e) hD)
  refine I.call' (ch := fp) J.os ⟨fun b o e n hb hx => J.base.keep b o e n hb hx, fun b o e n hb hx => J.base.slot b o e n hb hx, fun b o e n hx => ?_, fun b o e hx => J.base.there b o e hx, fun b xs e => ?_, fun b o u e => ?_, fun b ps e => ?_⟩ (fun b u e => ?_) J.bare fun b hb => ⟨(hf b hb).2.2.2.1, (hf b hb).2.1, (hf b hb).2.2.2.2.1, (hf b hb).2.2.2.2.2⟩
  · rw [upd_ne (nD b o e)]
    exact J.base.free b o e n hx
  · rw [upd_ne (ne_of_none e fD)]
    exact J.base.tups b xs e
  · rw [upd_ne (ne_of_none e fD)]
    exact J.base.frzs b o u e
  · rw [upd_ne (ne_of_none e fD)]
    exact J.base.tbls b ps e
  · by_cases hb : b = D
    · subst hb
      rw [upd_same] at e
      cases e
      exact ⟨hz, its, its.length, rv, hget⟩
    · rw [upd_ne hb] at e
      exact (J.hok b u e).stay (fun c v _ q => q) (fun c q => by rw [upd_ne (ne_of_none q hH)]; exact q) fun c xs q => by rw [upd_ne (ne_of_none q hH)]; exact q
end
noncomputable def CompGoal (J : It) (k : Nat) (σ : St) (H1 : Hp) (g : TG) (tt : TT) (te : TE) (Q : VK) : Prop := ∃ W : Nat → Nat → List V → Hp → Prop, (∃ m, W 0 m [] H1) ∧ ∀ i m ys H, W i m ys H →
  (J.stop i H ∧ ys.length ≤ sizeLine ∧ ∀ p, H p = none → Q (.ref p) (upd H p (.lst ys))) ∨
  (J.go i H ∧ ys.length ≤ sizeLine ∧ ∀ x H', J.yld i H x H' → g x (σ ++ List.replicate k none) H' fun σ2 H2 => tt σ2 H2 fun b H3 =>
    if b = true then te σ2 H3 fun y H4 => ∃ m', m' < m ∧ W (i + 1) m' (ys ++ [y]) H4 else ∃ m', m' < m ∧ W (i + 1) m' ys H3)
noncomputable def tComp (k : Nat) (wi : TI) (g : TG) (tt : TT) (te : TE) : TE := fun σ H Q => wi σ H fun J H1 => CompGoal J k σ H1 g tt te Q

section
variable {X : Cx} {elt tg iter : Expr} {ifs : List Expr} {sc : Scope} {pos : Pos} {cl : List (Str × Addr)} {T : List Str} {wi : TI} {g : TG} {tt : TT} {te : TE}
theorem comp_run {pins : List (Addr × Obj)} {σ : St} {s2 : Shared} {H2 : Hp} {Q : VK} {E : Value → Shared → Prop} {R : Value → Addr → Result → Shared → Prop} {it : Addr} {fp : List Addr} {tn : Nat → Heap → Prop} {J : It}
    (hc : X.calm = true) (S : ScOk X sc cl T)
    (hg : ∀ C s H fp, PG (cxComp X sc cl T C s H fp) tg g) (hf : ∀ C s H fp, PFs (cxComp X sc cl T C s H fp) ifs tt) (he : ∀ C s H fp, PE (cxComp X sc cl T C s H fp) elt te)
    (I : Inv X pins σ H2 s2) (TT' : Turn X.prog X.w X.K tg J fp it tn) (st : tn 0 s2.heap) (f2 : ∀ b ∈ fp, FpOk X pins H2 b)
    (W : Nat → Nat → List V → Hp → Prop) (m0 : Nat) (w0 : W 0 m0 [] H2)
    (turn : ∀ i m ys H, W i m ys H → (J.stop i H ∧ ys.length ≤ sizeLine ∧ ∀ p, H p = none → Q (.ref p) (upd H p (.lst ys))) ∨
      (J.go i H ∧ ys.length ≤ sizeLine ∧ ∀ x H', J.yld i H x H' → g x (σ ++ List.replicate T.length none) H' fun σ2 H2 => tt σ2 H2 fun b H3 =>
        if b = true then te σ2 H3 fun y H4 => ∃ m', m' < m ∧ W (i + 1) m' (ys ++ [y]) H4 else ∃ m', m' < m ∧ W (i + 1) m' ys H3))
    (hR : ∀ (D C : Addr) (s1 : Shared) (H1 : Hp) (m : Str → Option Value), Inv X pins σ H1 s1 → H1 C = none → C ≠ X.env.locals → X.s₀.heap.objs.size ≤ C → (∀ x c, X.env.cells.lookup x = some c → c ≠ C) → (∀ p ∈ X.pn ++ pins, p.1 ≠ C) →
      s1.heap.Ns C m → Q (.ref D) H1 → R (.ref D) C (.ok .next) s1) :
    wpAny (model X.prog X.w) X.A (newList []) (fun acc s₃ => wpAny (model X.prog X.w) X.A (newFunctionEnv sc X.env.globals cl [] X.env.qual none .none (some X.env)) (fun cenv s₄ =>
      codeAny (model X.prog X.w) X.A (.compStart (.ListComp elt [⟨tg, iter, ifs, 0⟩] sc pos) 0 (.ref it) acc { cenv with scope := relabel sc X.env }) (R acc cenv.locals) s₄) E s₃) E s2 := by
  refine wpAny_newObj_type (wpAny_newFunctionEnv S.cell (by intro y hy; simp at hy) (fun h1 hn1 sb1 => ?_) S.kind)
  dsimp only at hn1 sb1 ⊢
  generalize hH : s2.heap.push { cls := .type "list", dict := none, data := .seq ([] : List Value).toArray } = G at hn1 sb1 ⊢
  have hC : G.objs.size = s2.heap.objs.size + 1 := by rw [← hH, Heap.size_push]
  have hDC : s2.heap.objs.size ≠ G.objs.size := by rw [hC]; exact Nat.ne_of_lt (Nat.lt_succ_self _)
  have hCle : s2.heap.objs.size ≤ G.objs.size := by rw [hC]; exact Nat.le_succ _
  have old : ∀ b o, s2.heap.get? b = some o → h1.get? b = some o := fun b o e => by
    exact sb1.extBut b o (Nat.ne_of_lt (Nat.lt_of_lt_of_le (Heap.lt_size e) hCle)) (Heap.get?_push_of_some _ (hH ▸ Heap.get?_push_of_some _ e))
  have hacc : h1.get? s2.heap.objs.size = some (LCg.lst []) := sb1.extBut _ _ hDC (Heap.get?_push_of_some _ (hH ▸ Heap.get?_push_size _ rfl))
  have fl : ∀ b ∈ fp, b < s2.heap.objs.size := fun b hb => by
    obtain ⟨o, e, _⟩ := TT'.obj _ _ st b hb
    exact Heap.lt_size e
  have DS : s2.heap.objs.size ∉ frs X.stack := fun z => by
    rcases List.mem_cons.mp (I.stkSub _ z) with e | e
    · exact Nat.ne_of_lt I.lt e.symm
    · exact I.nofs (Nat.le_refl _) e
  have keepT : ∀ (i : Nat) (h h' : Heap), tn i h → (∀ b o, b < s2.heap.objs.size → h.get? b = some o → h'.get? b = some o) → tn i h' := fun i h h' z k => TT'.keep i h h' z fun b hb o e => k b o (fl b hb) e
  have fpo : ∀ {H' : Hp} {pl : List (Addr × Obj)}, (∀ b ∈ fp, H' b = none) → (∀ p ∈ pl, s2.heap.objs.size ≤ p.1) → ∀ b ∈ fp, FpOk (cxComp X sc cl T G.objs.size s2 H2 fp) pl H' b := fun {H' pl} hn hp b hb => by
    refine ⟨hn b hb, fun z => ?_, fun z => ?_, .inl hb, fun x c h => (f2 b hb).2.2.2.2.1 x c (S.cls.look x c h), fun p hp' z => ?_⟩
    · exact Nat.ne_of_lt (Nat.lt_of_lt_of_le (fl b hb) hCle) z
    · rcases List.mem_cons.mp (I.stkSub b z) with e | e
      · exact (f2 b hb).2.1 e
      · exact (f2 b hb).2.2.1 e
    · exact Nat.ne_of_lt (Nat.lt_of_lt_of_le (fl b hb) (hp p (show p ∈ pl from hp'))) z.symm
  let Y := cxComp X sc cl T G.objs.size s2 H2 fp
  have loop : ∀ z : Shared, z = { s2 with heap := h1, toks := s2.toks + ([] : List (Str × Value)).length } →
      codeAny (model X.prog X.w) X.A (.compLoop (.ListComp elt [⟨tg, iter, ifs, 0⟩] sc pos) 0 (.ref it) (.ref s2.heap.objs.size) (compEnvC sc cl G.objs.size X.env)) (R (.ref s2.heap.objs.size) G.objs.size) z := by
    rintro z rfl
    refine comp_loop (fun n z => ∃ i ys its H', Inv Y [] (σ ++ List.replicate T.length none) H' z ∧ tn i z.heap ∧ (∀ b ∈ fp, H' b = none) ∧ H' s2.heap.objs.size = none ∧ Vals ys its ∧ z.heap.get? s2.heap.objs.size = some (LCg.lst its) ∧ W i n ys H') _ rfl ?_ m0
      ⟨0, [], [], H2, comp_inv S I f2 fl hCle old hn1, TT'.keep _ _ _ st fun b hb o e => old b o e, fun b hb => (f2 b hb).1, I.hok.fresh (Nat.le_refl _), .nil, hacc, w0⟩
    rintro n z ⟨i, ys, its, H', IY, stz, frz, fD, rv, hget, wz⟩
    have IP : Inv Y [(s2.heap.objs.size, LCg.lst its)] (σ ++ List.replicate T.length none) H' z := IY.pins_of fun p hp => by
      have e : p = (s2.heap.objs.size, LCg.lst its) := by simpa using hp
      subst e
      exact ⟨hget, fD, hDC, DS, fun v q => by cases (show Data.seq _ _ = Data.cell v from q)⟩
    have hpl : ∀ p ∈ [(s2.heap.objs.size, LCg.lst its)], s2.heap.objs.size ≤ p.1 := fun p hp => by
      have e : p = (s2.heap.objs.size, LCg.lst its) := by simpa using hp
      subst e
      exact Nat.le_refl _
    rcases turn i n ys H' wz with ⟨stop, hz, q⟩ | ⟨go, hz, step⟩
    · refine thn (TT'.done Y rfl rfl rfl hc i _ z _ H' _ IP (fpo frz hpl) stz stop) fun r z1 ⟨hr, I1⟩ => ?_
      subst hr
      have g1 : z1.heap.get? s2.heap.objs.size = some (LCg.lst its) := (I1.pin (s2.heap.objs.size, LCg.lst its) (by simp [Y, cxComp])).1
      obtain ⟨mC, hnC, _⟩ := I1.loc
      have out := comp_out S I f2 (Nat.le_refl _) hCle hDC I1 fD rv hz g1
      refine hR _ _ z1 _ mC out ?_ ?_ ?_ ?_ ?_ hnC (q _ fD)
      · rw [upd_ne (Ne.symm hDC)]
        exact I1.free
      · exact (Nat.ne_of_lt (Nat.lt_of_lt_of_le I.lt hCle)).symm
      · exact Nat.le_trans I.sz hCle
      · intro x c hcc
        obtain ⟨v, zc⟩ := I.cell x c hcc
        exact Nat.ne_of_lt (Nat.lt_of_lt_of_le zc.lt hCle)
      · intro p hp
        exact Nat.ne_of_lt (Nat.lt_of_lt_of_le (Heap.lt_size (I.pin p hp).1) hCle)
    · refine thn (TT'.item Y rfl rfl rfl hc i _ z _ H' _ IP (fpo frz hpl) stz go) fun r z1 ⟨u, hr, h1'⟩ => ?_
      subst hr
      refine thn h1' fun _ z2 ⟨x, H3, I3, r3, y3, st3, fr3⟩ => ?_
      have I3' := I3.pinned (fpo fr3 hpl) (TT'.obj _ _ st3)
      have fin : ∀ {H' : Hp} {σ' : St} {z' : Shared}, Inv Y ([(s2.heap.objs.size, LCg.lst its)] ++ pinsAt fp z2.heap) σ' H' z' → tn (i + 1) z'.heap ∧ (∀ b ∈ fp, H' b = none) ∧ H' s2.heap.objs.size = none ∧ z'.heap.get? s2.heap.objs.size = some (LCg.lst its) := fun {H' σ' z'} I' => by
        have a1 : ∀ b ∈ fp, ∀ o, z2.heap.get? b = some o → z'.heap.get? b = some o ∧ H' b = none := fun b hb o e =>
          let p := I'.pin (b, o) (List.mem_append_right _ (List.mem_append_right _ (mem_pinsAt hb e)))
          ⟨p.1, p.2.1⟩
        have a2 := I'.pin (s2.heap.objs.size, LCg.lst its) (List.mem_append_right _ (by simp))
        exact ⟨TT'.keep _ _ _ st3 fun b hb o e => (a1 b hb o e).1, fun b hb => by
          obtain ⟨o, e, _⟩ := TT'.obj _ _ st3 b hb
          exact (a1 b hb o e).2, a2.2.1, a2.1⟩
      have bare : ∀ {H' : Hp} {σ' : St} {z' : Shared}, Inv Y ([(s2.heap.objs.size, LCg.lst its)] ++ pinsAt fp z2.heap) σ' H' z' → Inv Y [] σ' H' z' := fun I' => I'.pins_of fun p hp => absurd hp (by simp)
      refine wpAny_mono (hg G.objs.size s2 H2 fp _ z2 _ H3 x u _ I3' r3 (step x H3 y3)) (fun _ z3 ⟨σ4, H4, I4, q4⟩ => ?_) fun _ _ e => e.elim
      refine wpAny_mono (hf G.objs.size s2 H2 fp _ z3 _ H4 _ I4 q4) (fun ok z4 ⟨H5, I5, q5⟩ => ?_) fun _ _ e => e.elim
      have lenσ : ∀ {H' : Hp} {σ' : St} {z' : Shared} {pl}, Inv Y pl σ' H' z' → (σ ++ List.replicate T.length none).length = σ'.length := fun I' => by rw [I'.len]; exact IY.len
      have weak : ∀ {H' : Hp} {z' : Shared}, Inv Y [] σ4 H' z' → Inv Y [] (σ ++ List.replicate T.length none) H' z' := fun {H' z'} I' => by
        have c0 := comp_inv (T := T) (t1 := z'.toks) S I f2 fl hCle old hn1
        obtain ⟨m', hn', hl'⟩ := I'.loc
        obtain ⟨_, _, hl0⟩ := I.loc
        refine ⟨I'.ok, I'.os, I'.bare, I'.base, ⟨m', hn', fun j x v e1 e2 e3 => ?_⟩, I'.cell, I'.free, I'.freeC, I'.pin, I'.hok, (lenσ I').trans I'.len⟩
        have hj : j < σ.length := by
          by_cases hj : j < σ.length
          · exact hj
          · rw [List.getElem?_append_right (Nat.not_lt.mp hj), List.getElem?_replicate] at e2
            split at e2 <;> cases e2
        have e2' := e2
        rw [List.getElem?_append_left hj] at e2'
        have e1' : X.N[j]? = some x := by
          have e : (X.N ++ T)[j]? = some x := e1
          rwa [List.getElem?_append_left (by rw [← I.len]; exact hj)] at e
        have hx : x ∈ X.N := List.mem_of_getElem? e1'
        have e3' : (compEnvC sc cl G.objs.size X.env).scope.names.lookup x = some .cell ∨ (compEnvC sc cl G.objs.size X.env).scope.names.lookup x = some .free := by
          rcases e3 with z | z | z
          · exact absurd z (S.local_out hx)
          · exact .inl z
          · exact .inr z
        obtain ⟨⟨c, hc'⟩, ko⟩ := S.seen e3'
        obtain ⟨u, r, l⟩ := hl0 j x v e1' e2' (.inr ko)
        have hcX := S.cls.look x c hc'
        refine ⟨u, r, .inr ⟨e3', c, hc', ?_⟩⟩
        rcases l with ⟨kl, _⟩ | ⟨_, c', hc2, zc⟩
        · have kl' : X.env.scope.names.lookup x = some .local := kl
          rcases ko with q | q
          · rw [q] at kl'; cases kl'
          · rw [q] at kl'; cases kl'
        · rw [hcX] at hc2; cases hc2
          obtain ⟨o, ho, hd⟩ := zc
          have nfp : c ∉ fp := fun hb => (f2 c hb).2.2.2.2.1 x c hcX rfl
          obtain ⟨sl, e⟩ := I'.base.any ho (I.freeC x c hcX) nfp
          exact ⟨_, e, hd⟩
      cases ok with
      | false =>
        rw [if_neg Bool.false_ne_true] at q5 ⊢
        obtain ⟨m', hm, w'⟩ := q5
        obtain ⟨b1, b2, b3, b4⟩ := fin I5
        exact ⟨m', hm, i + 1, ys, its, H5, weak (bare I5), b1, b2, b3, rv, b4, w'⟩
      | true =>
        rw [if_pos rfl] at q5 ⊢
        refine wpAny_mono (he G.objs.size s2 H2 fp _ z4 _ H5 _ I5 q5) (fun y z5 ⟨yv, H6, I6, r6, q6⟩ => ?_) fun _ _ e => e.elim
        obtain ⟨m', hm, w'⟩ := q6
        obtain ⟨b1, b2, b3, b4⟩ := fin I6
        refine append_at (hsz := by show its.toArray.size ≤ sizeLine; rw [List.size_toArray, ← rv.length]; exact hz) b4 fun h6 sb6 g6 => ?_
        have I7 : Inv Y [] (σ ++ List.replicate T.length none) H6 { z5 with heap := h6 } := (weak (bare I6)).turned (t' := z5.toks) (it := s2.heap.objs.size) (fun b o hb e => (sb6.2 b hb).trans e) b3 hDC (.inr (Nat.le_refl _)) (fun x c h => by
          obtain ⟨v, zc⟩ := I.cell x c (S.cls.look x c h)
          exact Nat.ne_of_lt zc.lt) fun p hp => absurd (show p ∈ ([] : List (Addr × Obj)) from hp) (by simp)
        refine ⟨m', hm, i + 1, ys ++ [yv], its ++ [y], H6, I7, keepT _ _ _ b1 fun b o hb e => (sb6.2 b (Nat.ne_of_lt hb)).trans e, b2, b3, rv.append (.cons r6 .nil), g6.trans (congrArg some (LCg.lst_snoc its y)), w'⟩
  exact codeAny_compStart_list (loop _ rfl) (TT'.self _ 0 _ _ _ (TT'.keep _ _ _ st fun b hb o e => old b o e) (loop _ rfl))

theorem pe_comp (hc : X.calm = true) (S : ScOk X sc cl T) (hi : PI X tg iter wi)
    (hg : ∀ C s H fp, PG (cxComp X sc cl T C s H fp) tg g) (hf : ∀ C s H fp, PFs (cxComp X sc cl T C s H fp) ifs tt) (he : ∀ C s H fp, PE (cxComp X sc cl T C s H fp) elt te)
    (hs : ∀ x, foldedSetIterable iter X.env x = pure x := by intro _; rfl) : PE X (.ListComp elt [⟨tg, iter, ifs, 0⟩] sc pos) (tComp T.length wi g tt te) := by
  intro pins s σ H Q I h
  rw [eval_ListComp]
  refine wpAny_comprehension_free (use := none) rfl hs S.clos S.kind S.names (thn (hi pins s σ H _ I h) fun v s1 h1 => thn h1 fun itv s2 h2 => ?_)
  obtain ⟨it, fp, tn, J, H2, e, I2, TT', st2, f2, W, ⟨m0, w0⟩, turn⟩ := h2
  subst e
  refine comp_run (Q := Q) hc S hg hf he I2 TT' st2 f2 W m0 w0 turn fun D C z H1 m I1 n1 n2 n3 n4 n5 hn q => ?_
  exact ⟨m, hn, fun h' sb => ⟨.ref D, H1, I1.turned (t' := z.toks) (it := C) (fun b o hb e => (sb.2 b hb).trans e) n1 n2 (.inr n3) n4 n5, rfl, q⟩⟩
theorem ps_setComp {i : Nat} {y : Str} {py spos : Pos} (hc : X.calm = true) (S : ScOk X sc cl T) (hi : PI X tg iter wi)
    (hg : ∀ C s H fp, PG (cxComp X sc cl T C s H fp) tg g) (hf : ∀ C s H fp, PFs (cxComp X sc cl T C s H fp) ifs tt) (he : ∀ C s H fp, PE (cxComp X sc cl T C s H fp) elt te)
    (hN : X.N.Nodup) (hix : X.N[i]? = some y) (hx : X.env.scope.names.lookup y = some .local)
    (hsw : swapsWith (.ListComp elt [⟨tg, iter, ifs, 0⟩] sc pos) (some (.Name y py)) spos.line X.env = pure true)
    (hs : ∀ x, foldedSetIterable iter X.env x = pure x := by intro _; rfl) :
    PS X (.Assign [.Name y py] (.ListComp elt [⟨tg, iter, ifs, 0⟩] sc pos) spos) (tAsg (tComp T.length wi g tt te) (gName i)) := by
  intro pins s σ H D I h
  rw [exec_Assign_Name_used _ _ _ _ hsw]
  refine wpAny_bind (wpAny_standAt (wpAny_bind ?_))
  show wpAny _ X.A (do let _ ← comprehension (.ListComp elt [⟨tg, iter, ifs, 0⟩] sc pos) sc X.env _ (newList []) false (eval iter X.env) (some (assign (.Name y py) X.env))) _ _ s
  refine wpAny_bind (thn (wpAny_comprehension_free (use := some (assign (.Name y py) X.env)) (Q := fun _ s' => SP X pins D .next s') rfl hs S.clos S.kind S.names (thn (hi pins s σ H _ I h) fun v s1 h1 => thn h1 fun itv s2 h2 => ?_)) fun _ s' hq => wpAny_pure (wpAny_pure hq))
  obtain ⟨it, fp, tn, J, H2, e, I2, TT', st2, f2, W, ⟨m0, w0⟩, turn⟩ := h2
  subst e
  refine comp_run (Q := fun x H1 => gName i x σ H1 D.nx) hc S hg hf he I2 TT' st2 f2 W m0 w0 turn fun A C z H1 m I1 n1 n2 n3 n4 n5 hn q => ?_
  show wpAny _ X.A (assign (.Name y py) X.env (.ref A)) _ _ z
  refine wpAny_assign_Name (store_ok2 (v := .ref A) I1 hN hix (.inl hx) rfl (fun z' I' ⟨a, sb, ha⟩ => ?_) (.inr hx))
  have hCa : C ≠ a := by
    rcases ha with e | e
    · rw [e]; exact n2
    · exact (n4 y a e).symm
  refine ⟨m, hn.sameBut sb hCa, fun h' sb' => ⟨_, H1, I'.turned (t' := z'.toks) (it := C) (fun b o hb e => (sb'.2 b hb).trans e) n1 n2 (.inr n3) n4 n5, q⟩⟩
end
end L2
-- MOD Ex1
/-! More rules for the hand layer: isinstance, all, is True, texts walked and cut, keywords at a class. -/
namespace L2
open PySem PySem.Spec PyProof.Rows
section
variable {X : Cx}
theorem v1 {x : V} {us : List Value} (r : Vals [x] us) : ∃ u, us = [u] ∧ RelV x u := by
  cases r with
  | cons a b => cases b; exact ⟨_, rfl, a⟩
theorem v2 {x y : V} {us : List Value} (r : Vals [x, y] us) : ∃ u v, us = [u, v] ∧ RelV x u ∧ RelV y v := by
  cases r with
  | cons a b =>
    cases b with
    | cons c d => cases d; exact ⟨_, _, rfl, a, c⟩
theorem call_isinst : CallR X (.builtin "isinstance") (fun xs H Q => ∃ x c t cv b, xs = [x, c] ∧ TyOf X.K H x t ∧ RelV c cv ∧ PySem.W.kitOne X.K t cv = some b ∧ Q (.bl b) H) := by
  intro pins s σ H xs us Q I r h
  obtain ⟨x, c, t, cv, b, rfl, ty, rc, e, q⟩ := h
  obtain ⟨u, v, rfl, ru, rv⟩ := v2 r
  have hv : v = cv := by
    cases c with
    | non => exact (show v = Value.none from rv).trans (show cv = Value.none from rc).symm
    | bl z => exact (show v = Value.bool z from rv).trans (show cv = Value.bool z from rc).symm
    | int i =>
      obtain ⟨t1, rfl⟩ := rc
      exact absurd e (by unfold PySem.W.kitOne; cases ty <;> simp [PySem.W.kitCls])
    | str i =>
      obtain ⟨t1, rfl⟩ := rc
      exact absurd e (by unfold PySem.W.kitOne; cases ty <;> simp [PySem.W.kitCls])
    | byt i =>
      obtain ⟨t1, rfl⟩ := rc
      exact absurd e (by unfold PySem.W.kitOne; cases ty <;> simp [PySem.W.kitCls])
    | flt i =>
      obtain ⟨t1, rfl⟩ := rc
      exact absurd e (by unfold PySem.W.kitOne; cases ty <;> simp [PySem.W.kitCls])
    | ref a => exact (show v = Value.ref a from rv).trans (show cv = Value.ref a from rc).symm
    | ty n => exact (show v = Value.type n from rv).trans (show cv = Value.type n from rc).symm
  subst hv
  exact isinst_ok I ru ty e fun tk => ⟨.bl b, H, I.tok tk, rfl, q⟩

theorem bools_get : ∀ {bs : List Bool} {us : List Value} {i : Nat} {v : Value}, Vals (bs.map V.bl) us → us[i]? = some v → ∃ b, bs[i]? = some b ∧ v = Value.bool b
  | [], _, i, v, .nil, h => by simp at h
  | b :: r, _, 0, v, .cons a t, h => by
    simp at h
    subst h
    exact ⟨b, rfl, a⟩
  | b :: r, _, i + 1, v, .cons a t, h => by
    obtain ⟨b', e, q⟩ := bools_get (bs := r) (i := i) t (by simpa using h)
    exact ⟨b', by simpa using e, q⟩
theorem all_range : ∀ (bs : List Bool), ((List.range bs.length).all fun i => (bs[i]?).getD true) = bs.all id
  | [] => rfl
  | b :: r => by
    rw [List.length_cons, List.range_succ_eq_map, List.all_cons, List.all_map, List.all_cons]
    have e := all_range r
    simp only [Function.comp_def, List.getElem?_cons_succ, List.getElem?_cons_zero, Option.getD_some, id] at *
    rw [← e]
theorem call_all (hc : X.calm = true) : CallR X (.builtin "all") (fun xs H Q => ∃ (p : Addr) (bs : List Bool), xs = [.ref p] ∧ SqL X.K H p (bs.map V.bl) ∧ Q (.bl (bs.all id)) H) := by
  intro pins s σ H xs us Q I r h
  obtain ⟨p, bs, rfl, hp, q⟩ := h
  obtain ⟨u, rfl, ru⟩ := v1 r
  cases (show u = Value.ref p from ru)
  obtain ⟨its, rv, pl, hz⟩ := I.list hp
  have hl := pl.isList
  have hlt : p < s.heap.objs.size := by obtain ⟨_, e, _⟩ := hl; exact Heap.lt_size e
  have hlen : its.length = bs.length := by rw [← rv.length, List.length_map]
  refine call_all_walk (wpAny_pyIter_list hl ?_)
  refine ⟨s.heap.objs.size, [s.heap.objs.size, p], [s.heap.objs.size], its.toArray.size, _, _, fun i => (bs[i]?).getD true, rfl, Walks.list (A := X.A.in1) (I.ok.hd hc) _ p (Nat.ne_of_lt hlt) its.toArray,
    ⟨⟨_, Heap.get?_push_size _ rfl, rfl, rfl⟩, hl.push _⟩, fun i v s' Q' E' hP hQ => ?_, fun h' tk hk => ?_⟩
  · obtain ⟨b, e, rfl⟩ := bools_get rv (by simpa using hP)
    simp only [e, Option.getD_some] at hQ
    exact wpAny_truthy_bool hQ
  · rw [List.size_toArray, hlen, all_range]
    exact ⟨.bl _, H, I.kept (t' := tk) fun b o e => hk b o (fun hm => by rw [List.mem_singleton.mp hm] at e; exact Nat.lt_irrefl _ (Heap.lt_size e)) (Heap.get?_push_of_some _ e), rfl, q⟩

noncomputable def Its (x : Str) : It := ⟨fun i _ => i < x.length, fun i H v H' => H' = H ∧ ∃ c, x.cps[i]? = some c ∧ v = .str ⟨#[c]⟩, fun i _ => x.length ≤ i⟩
noncomputable def iStr (tl : TE) : TI := fun σ H R => tl σ H fun v H1 => ∃ x, v = .str x ∧ R (Its x) H1
theorem turn_str {P : Program} {w : World} {K : PySem.W.Frag} {y : Str} {py : Pos} {x : Str} {it : Addr} {St : Nat → Heap → Prop} (ho : ∀ i h, St i h → ∃ o, h.get? it = some o ∧ ∀ v, o.data ≠ .cell v)
    (W : ∀ A' : Around, A'.handled = none → Walks P w A' it [it] [it] x.cps.size (SignAt x) St) (hself : ∀ (A : Around) (i : Nat) (s : Shared) (Q : Value → Shared → Prop) (E : Value → Shared → Prop), St i s.heap → Q (.ref it) s → wpAny (model P w) A (pyIter (.ref it)) Q E s)
    (hst : ∀ i h, St i h → i ≤ x.cps.size → True) : Turn P w K (.Name y py) (Its x) [it] it (fun i h => i ≤ x.cps.size ∧ St i h) where
  mem := by simp
  obj := fun i h st b hb => by
    have e : b = it := by simpa using hb
    subst e
    exact ho i h st.2
  keep := fun i h h' st k => ⟨st.1, (W { callerA with handled := none } rfl).frame i h h' st.2 k⟩
  item := by
    intro X hP hw hK hc i pins s σ H E I hf st hg
    subst hP hw hK
    obtain ⟨f0, f1, f2, f3, f4, f5⟩ := hf it (by simp)
    refine (W X.A (I.ok.hd hc)).item i s _ _ hg st.2 fun v h' tk hv st' kk => ?_
    obtain ⟨c, u, hc', rfl⟩ := hv
    have I1 : Inv X pins σ H { s with heap := h', toks := tk } := I.turned (fun b o hb e => kk b o (by simpa using hb) e) f0 f1 f3 f4 f5
    exact ⟨_, rfl, wpAny_pure ⟨.str ⟨#[c]⟩, H, I1, ⟨u, rfl⟩, ⟨rfl, c, hc', rfl⟩, ⟨hg, st'⟩, fun b hb => (hf b hb).1⟩⟩
  done := by
    intro X hP hw hK hc i pins s σ H E I hf st hg
    subst hP hw hK
    obtain ⟨f0, f1, f2, f3, f4, f5⟩ := hf it (by simp)
    have e : i = x.cps.size := Nat.le_antisymm st.1 hg
    have st2 := st.2
    rw [e] at st2
    exact (W X.A (I.ok.hd hc)).done s _ _ st2 fun h' tk kk => ⟨rfl, I.turned (fun b o hb e => kk b o (by simpa using hb) e) f0 f1 f3 f4 f5⟩
  self := fun A i s Q E st h => hself A i s Q E st.2 h
theorem pi_str {y : Str} {py : Pos} {l : Expr} {tl : TE} (hl : PE X l tl) : PI X (.Name y py) l (iStr tl) := by
  intro pins s σ H R I h
  refine thn (hl pins s σ H _ I h) fun v s1 ⟨x, H1, I1, r1, q1⟩ => ?_
  obtain ⟨z, rfl, q⟩ := q1
  obtain ⟨t, rfl⟩ := r1
  have fin : ∀ {o : Obj} {St : Nat → Heap → Prop}, Turn X.prog X.w X.K (.Name y py) (Its z) [s1.heap.objs.size] s1.heap.objs.size St → St 0 (s1.heap.push o) → PIE X pins σ (.Name y py) R (.ref s1.heap.objs.size) { s1 with heap := s1.heap.push o } := fun {o St} T st => by
    refine ⟨s1.heap.objs.size, [s1.heap.objs.size], St, _, H1, rfl, I1.kept (t' := s1.toks) fun b o e => Heap.get?_push_of_some _ e, T, st, fun b hb => ?_, q⟩
    have e : b = s1.heap.objs.size := by simpa using hb
    subst e
    exact I1.fpOk (Nat.le_refl _) (I1.hok.fresh (Nat.le_refl _))
  cases ha : z.cps.all (· < 128)
  · refine wpAny_pyIter_wide ha (fin (turn_str (fun i h st => ?_) (fun A' hA => Walks.strWide hA _ z t) (fun A i s Q E st h => wpAny_pyIter_striter_wide st h) fun _ _ _ _ => trivial) ⟨Nat.zero_le _, ⟨_, Heap.get?_push_size _ rfl, rfl, rfl⟩⟩)
    obtain ⟨o, e, c, d⟩ := st
    exact ⟨o, e, fun v q => by rw [d] at q; cases q⟩
  · refine wpAny_pyIter_ascii ha (fin (turn_str (fun i h st => ?_) (fun A' hA => Walks.strAscii hA _ z t) (fun A i s Q E st h => wpAny_pyIter_striter_ascii st h) fun _ _ _ _ => trivial) ⟨Nat.zero_le _, ⟨_, Heap.get?_push_size _ rfl, rfl, rfl⟩⟩)
    obtain ⟨o, e, c, d⟩ := st
    exact ⟨o, e, fun v q => by rw [d] at q; cases q⟩

end
/-! ### a class, made by keywords -/
section
variable {X : Cx} {CX : CXT} {k : Nat} {f C : Addr} {fd : FuncData} {ps ks : List Str} {sp : Sp} {E : St → XK} {x : Str} {p pos : Pos} {e : Expr} {es : List Expr} {kws : List Keyword} {t tk : TA} {g : List Value → List Value → List Value} {gV : List V → List V → List V}
end
end L2
-- MOD Ex2
/-! Data by content and ==; sets of texts; // by greater divisors. -/
namespace L2
open PySem PySem.Spec PyProof.Rows
/-! ### // by a divisor of any written size -/
theorem log2_lt64 {j : Int} (h0 : 0 < j) (h1 : j < 2 ^ 64) : j.natAbs.log2 < 9000 := by
  have : j.natAbs < 2 ^ 64 := by omega
  have h : j.natAbs.log2 < 64 := (Nat.log2_lt (by omega)).mpr this
  omega
noncomputable def CDivB (i j : Int) : Prop := 0 < j ∧ j < 2 ^ 64
theorem op_fdivB {X : Cx} : OpR X (binaryOp .FloorDiv) (rI CDivB fun i j => .int (i / j)) := opI fun i j _ _ _ _ _ hc q => by
  have h1 : (0 : Int) < j := hc.1
  exact floordiv_int (by omega) (by rw [Int.fdiv_eq_ediv_of_nonneg i (by omega)]; exact q) (.inl (PyProof.noPylong_of_log2 (log2_lt64 hc.1 hc.2)))

/-! ### data: every address in it is one of G -/
mutual
inductive Has (G : Addr → Prop) (H : Hp) : V → PyData → Prop where
  | non : Has G H .non .none
  | bl (b : Bool) : Has G H (.bl b) (.bool b)
  | int (i : Int) : Has G H (.int i) (.int i)
  | str (x : Str) (hx : x.length ≤ 1000) (ho : PyData.strOk x = true) : Has G H (.str x) (.str x)
  | lst {a : Addr} {xs : List V} {ds : List PyData} : G a → H a = some (.lst xs) → xs.length ≤ 1000 → HasAll G H xs ds → Has G H (.ref a) (.list ds)
  | tup {a : Addr} {xs : List V} {ds : List PyData} : G a → H a = some (.tup xs) → xs.length ≤ 1000 → HasAll G H xs ds → Has G H (.ref a) (.tuple ds)
inductive HasAll (G : Addr → Prop) (H : Hp) : List V → List PyData → Prop where
  | nil : HasAll G H [] []
  | cons {x : V} {xs : List V} {d : PyData} {ds : List PyData} : Has G H x d → HasAll G H xs ds → HasAll G H (x :: xs) (d :: ds)
end
noncomputable abbrev Any : Addr → Prop := fun _ => True
noncomputable def isSeq : HO → Prop
  | .lst _ => True
  | .tup _ => True
  | _ => False
mutual
theorem Has.frameS {G G' : Addr → Prop} {H H' : Hp} (e : ∀ a o, G a → isSeq o → H a = some o → G' a ∧ H' a = some o) : ∀ {v : V} {d : PyData}, Has G H v d → Has G' H' v d
  | _, _, .non => .non
  | _, _, .bl b => .bl b
  | _, _, .int i => .int i
  | _, _, .str x hx ho => .str x hx ho
  | _, _, .lst (xs := xs) g s z h => .lst (e _ (.lst xs) g trivial s).1 (e _ (.lst xs) g trivial s).2 z (HasAll.frameS e h)
  | _, _, .tup (xs := xs) g s z h => .tup (e _ (.tup xs) g trivial s).1 (e _ (.tup xs) g trivial s).2 z (HasAll.frameS e h)
theorem HasAll.frameS {G G' : Addr → Prop} {H H' : Hp} (e : ∀ a o, G a → isSeq o → H a = some o → G' a ∧ H' a = some o) : ∀ {vs : List V} {ds : List PyData}, HasAll G H vs ds → HasAll G' H' vs ds
  | _, _, .nil => .nil
  | _, _, .cons h t => .cons (Has.frameS e h) (HasAll.frameS e t)
end
theorem Has.frame {G G' : Addr → Prop} {H H' : Hp} {v : V} {d : PyData} (h : Has G H v d) (e : ∀ a o, G a → H a = some o → G' a ∧ H' a = some o) : Has G' H' v d := h.frameS fun a o g _ q => e a o g q
theorem HasAll.frame {G G' : Addr → Prop} {H H' : Hp} {v : List V} {d : List PyData} (h : HasAll G H v d) (e : ∀ a o, G a → H a = some o → G' a ∧ H' a = some o) : HasAll G' H' v d := h.frameS fun a o g _ q => e a o g q
theorem Has.mono {G : Addr → Prop} {H H' : Hp} {v : V} {d : PyData} (h : Has G H v d) (e : Same H H') : Has G H' v d := h.frame fun a o g q => ⟨g, e a o q⟩
theorem HasAll.mono {G : Addr → Prop} {H H' : Hp} {v : List V} {d : List PyData} (h : HasAll G H v d) (e : Same H H') : HasAll G H' v d := h.frame fun a o g q => ⟨g, e a o q⟩
theorem Has.any {G : Addr → Prop} {H : Hp} {v : V} {d : PyData} (h : Has G H v d) : Has Any H v d := h.frame fun _ _ _ q => ⟨trivial, q⟩
section
variable {G : Addr → Prop} {H : Hp}
theorem HasAll.length : ∀ {xs : List V} {ds : List PyData}, HasAll G H xs ds → xs.length = ds.length
  | _, _, .nil => rfl
  | _, _, .cons _ t => by rw [List.length_cons, List.length_cons, HasAll.length t]
theorem HasAll.get : ∀ {xs : List V} {ds : List PyData} {i : Nat} {x : V}, HasAll G H xs ds → xs[i]? = some x → ∃ d, ds[i]? = some d ∧ Has G H x d
  | _, _, i, x, .nil, h => by simp at h
  | _, _, 0, x, .cons a t, h => by simp at h; subst h; exact ⟨_, rfl, a⟩
  | _, _, i + 1, x, .cons a t, h => by
    obtain ⟨d, e, q⟩ := HasAll.get (i := i) t (by simpa using h)
    exact ⟨d, by simpa using e, q⟩
theorem HasAll.snoc : ∀ {xs : List V} {ds : List PyData} {x : V} {d : PyData}, HasAll G H xs ds → Has G H x d → HasAll G H (xs ++ [x]) (ds ++ [d])
  | _, _, _, _, .nil, h => .cons h .nil
  | _, _, _, _, .cons a t, h => .cons a (HasAll.snoc t h)
theorem Has.list_inv {v : V} {ds : List PyData} (h : Has G H v (.list ds)) : ∃ a xs, v = .ref a ∧ G a ∧ H a = some (.lst xs) ∧ xs.length ≤ 1000 ∧ HasAll G H xs ds := by
  cases h with
  | lst g s z q => exact ⟨_, _, rfl, g, s, z, q⟩
theorem Has.tup_inv {v : V} {ds : List PyData} (h : Has G H v (.tuple ds)) : ∃ a xs, v = .ref a ∧ G a ∧ H a = some (.tup xs) ∧ xs.length ≤ 1000 ∧ HasAll G H xs ds := by
  cases h with
  | tup g s z q => exact ⟨_, _, rfl, g, s, z, q⟩
theorem Has.str_inv {v : V} {x : Str} (h : Has G H v (.str x)) : v = .str x ∧ x.length ≤ 1000 ∧ PyData.strOk x = true := by
  cases h with
  | str _ a b => exact ⟨rfl, a, b⟩
mutual
theorem Has.lay : ∀ {v : V} {d : PyData}, Has G H v d → d.canLay0 = true
  | _, _, .non => rfl
  | _, _, .bl b => rfl
  | _, _, .int i => rfl
  | _, _, .str x _ ho => ho
  | _, _, .lst _ _ _ h => HasAll.lay h
  | _, _, .tup _ _ _ h => HasAll.lay h
theorem HasAll.lay : ∀ {vs : List V} {ds : List PyData}, HasAll G H vs ds → PyData.canLayAll0 ds = true
  | _, _, .nil => rfl
  | _, _, .cons h t => by
    show (PyData.canLay0 _ && PyData.canLayAll0 _) = true
    rw [Has.lay h, HasAll.lay t]
    rfl
end
end
section
variable {X : Cx} {pins : List (Addr × Obj)} {σ : St} {H : Hp} {s : Shared} {G : Addr → Prop}
mutual
theorem Has.reads (I : Inv X pins σ H s) : ∀ {v : V} {d : PyData} {u : Value}, Has G H v d → RelV v u → ∃ as, Reads s.heap u d as
  | _, _, u, .non, r => by cases (show u = Value.none from r); exact ⟨_, .none⟩
  | _, _, u, .bl b, r => by cases (show u = Value.bool b from r); exact ⟨_, .bool b⟩
  | _, _, u, .int i, r => by obtain ⟨t, rfl⟩ := (show ∃ t, u = Value.int i t from r); exact ⟨_, .int i t⟩
  | _, _, u, .str x _ _, r => by obtain ⟨t, rfl⟩ := (show ∃ t, u = Value.str x t from r); exact ⟨_, .str x t⟩
  | _, _, u, .lst (a := a) _ q _ h, r => by
    cases (show u = Value.ref a from r)
    obtain ⟨_, its, n, rv, e⟩ := I.hok a _ q
    obtain ⟨as, ra⟩ := HasAll.reads I h rv
    exact ⟨_, .list e rfl rfl (by simpa using ra)⟩
  | _, _, u, .tup (a := a) _ q _ h, r => by
    cases (show u = Value.ref a from r)
    obtain ⟨_, its, rv, ⟨o, e, c, n, d⟩⟩ := I.hok a _ q
    obtain ⟨as, ra⟩ := HasAll.reads I h rv
    exact ⟨_, .tuple e c d (by simpa using ra)⟩
theorem HasAll.reads (I : Inv X pins σ H s) : ∀ {vs : List V} {ds : List PyData} {us : List Value}, HasAll G H vs ds → Vals vs us → ∃ as, ReadsAll s.heap us ds as
  | _, _, _, .nil, .nil => ⟨_, .nil⟩
  | _, _, _, .cons h t, .cons r rr => by
    obtain ⟨as, ra⟩ := Has.reads I h r
    obtain ⟨bs, rb⟩ := HasAll.reads I t rr
    exact ⟨_, .cons ra rb⟩
end
end
theorem Has.shaped {G : Addr → Prop} {H : Hp} {v : V} {d : PyData} (h : Has G H v d) (hd : d.depth ≤ 64) : SeqAt.shaped d = true := by
  unfold SeqAt.shaped
  rw [h.lay, decide_eq_true hd]
  rfl
noncomputable def rEqD : R2 := fun x y H Q => ∃ d e, Has Any H x d ∧ Has Any H y e ∧ d.depth ≤ 64 ∧ e.depth ≤ 64 ∧ Q (.bl (PyData.eqv d e)) H
noncomputable def rNeD : R2 := fun x y H Q => ∃ d e, Has Any H x d ∧ Has Any H y e ∧ d.depth ≤ 64 ∧ e.depth ≤ 64 ∧ Q (.bl (!PyData.eqv d e)) H
theorem op_eqD {X : Cx} (hu : X.A.units + 64 < cLine) : OpR X (compareOp .Eq) rEqD := by
  intro pins s σ H x y u v Q I rx ry h
  obtain ⟨d, e, hd, he, sd, se, q⟩ := h
  obtain ⟨as, ra⟩ := hd.reads I rx
  obtain ⟨bs, rb⟩ := he.reads I ry
  exact eq_dataH ra rb (hd.shaped sd) (he.shaped se) hu ⟨.bl _, H, I, rfl, q⟩
theorem op_neD {X : Cx} (hu : X.A.units + 64 < cLine) : OpR X (compareOp .NotEq) rNeD := by
  intro pins s σ H x y u v Q I rx ry h
  obtain ⟨d, e, hd, he, sd, se, q⟩ := h
  obtain ⟨as, ra⟩ := hd.reads I rx
  obtain ⟨bs, rb⟩ := he.reads I ry
  exact ne_dataH ra rb (hd.shaped sd) (he.shaped se) hu ⟨.bl _, H, I, rfl, q⟩
theorem Has.eqv {G : Addr → Prop} {H : Hp} {v : V} {d : PyData} (h : Has G H v d) : PyData.eqv d d = true := SeqAt.eqv_refl d h.lay

/-! ### set(texts), len of it -/
section
variable {κ : Type} [DecidableEq κ]
noncomputable def dstep (acc : List κ) (x : κ) : List κ := if x ∈ acc then acc else acc ++ [x]
noncomputable def dl (l : List κ) : List κ := l.foldl dstep []
theorem dl_snoc (l : List κ) (x : κ) : dl (l ++ [x]) = dstep (dl l) x := by unfold dl; rw [List.foldl_append]; rfl
theorem foldl_dstep_mem : ∀ (l acc : List κ) (k : κ), k ∈ l.foldl dstep acc ↔ k ∈ acc ∨ k ∈ l
  | [], acc, k => by simp
  | x :: r, acc, k => by
    rw [List.foldl_cons, foldl_dstep_mem r]
    unfold dstep
    by_cases h : x ∈ acc
    · rw [if_pos h]
      constructor
      · rintro (a | a)
        · exact .inl a
        · exact .inr (List.mem_cons_of_mem _ a)
      · rintro (a | a)
        · exact .inl a
        · rcases List.mem_cons.mp a with rfl | a
          · exact .inl h
          · exact .inr a
    · rw [if_neg h]
      simp only [List.mem_append, List.mem_cons, List.not_mem_nil, or_false]
      constructor
      · rintro ((a | a) | a)
        · exact .inl a
        · exact .inr (.inl a)
        · exact .inr (.inr a)
      · rintro (a | a | a)
        · exact .inl (.inl a)
        · exact .inl (.inr a)
        · exact .inr a
theorem mem_dl {l : List κ} {k : κ} : k ∈ dl l ↔ k ∈ l := by unfold dl; rw [foldl_dstep_mem]; simp
theorem foldl_dstep_len : ∀ (l acc : List κ), (l.foldl dstep acc).length ≤ acc.length + l.length
  | [], acc => Nat.le_refl _
  | x :: r, acc => by
    rw [List.foldl_cons]
    refine Nat.le_trans (foldl_dstep_len r _) ?_
    unfold dstep
    split
    · rw [List.length_cons]; omega
    · simp only [List.length_append, List.length_cons, List.length_nil]; omega
theorem dl_len_le (l : List κ) : (dl l).length ≤ l.length := by have := foldl_dstep_len l []; simpa [dl] using this
theorem foldl_dstep_nodup : ∀ (l acc : List κ), (∀ x ∈ l, x ∉ acc) → l.Nodup → (l.foldl dstep acc).length = acc.length + l.length
  | [], acc, _, _ => rfl
  | x :: r, acc, h, hn => by
    obtain ⟨h1, h2⟩ := List.nodup_cons.mp hn
    have hx : x ∉ acc := h x List.mem_cons_self
    rw [List.foldl_cons, show dstep acc x = acc ++ [x] from if_neg hx, foldl_dstep_nodup r _ (fun y hy m => ?_) h2]
    · simp; omega
    · rcases List.mem_append.mp m with m | m
      · exact h y (List.mem_cons_of_mem _ hy) m
      · rw [List.mem_singleton.mp m] at hy; exact h1 hy
theorem foldl_dstep_dup : ∀ (l acc : List κ), ((∃ x ∈ l, x ∈ acc) ∨ ¬ l.Nodup) → (l.foldl dstep acc).length < acc.length + l.length
  | [], acc, h => by
    rcases h with ⟨x, hx, _⟩ | h
    · simp at hx
    · exact absurd List.nodup_nil h
  | x :: r, acc, h => by
    rw [List.foldl_cons]
    by_cases hx : x ∈ acc
    · rw [show dstep acc x = acc from if_pos hx]
      have := foldl_dstep_len r acc
      simp only [List.length_cons]
      omega
    · rw [show dstep acc x = acc ++ [x] from if_neg hx]
      have ih := foldl_dstep_dup r (acc ++ [x]) ?_
      · simp only [List.length_append, List.length_cons, List.length_nil] at *
        omega
      · rcases h with ⟨y, hy, ha⟩ | h
        · rcases List.mem_cons.mp hy with rfl | hy
          · exact absurd ha hx
          · exact .inl ⟨y, hy, List.mem_append_left _ ha⟩
        · by_cases hr : x ∈ r
          · exact .inl ⟨x, hr, by simp⟩
          · exact .inr fun z => h (List.nodup_cons.mpr ⟨hr, z⟩)
theorem dl_len_iff (l : List κ) : decide ((dl l).length = l.length) = decide l.Nodup := by
  by_cases h : l.Nodup
  · have := foldl_dstep_nodup l [] (fun _ _ z => by simp at z) h
    rw [decide_eq_true h, decide_eq_true (by simpa [dl] using this)]
  · have := foldl_dstep_dup l [] (.inr h)
    rw [decide_eq_false h, decide_eq_false (by simp [dl] at *; omega)]

variable {prog : Program} {w : World} {A : Around} {R : Result → Shared → Prop} {I : Addr} {fp wr : List Addr} {n : Nat} {P : Nat → Value → Prop} {St : Nat → Heap → Prop}
theorem SetOf_eqv {knd : KeyKind prog w κ} {h : Heap} {a : Addr} {S S' : κ → Bool} {m m' : Nat} (x : h.SetOf knd a S m) (e : ∀ k, S k = S' k) (em : m = m') : h.SetOf knd a S' m' := by
  have e' : S = S' := funext e
  subst e' em
  exact x
theorem set_loopK (W : Walks prog w A.in1 I fp wr n P St) {D : Addr} (hD : D ∉ fp) {knd : KeyKind prog w κ} {ks : List κ} (hn : ks.length = n) (hval : ∀ i v k, P i v → ks[i]? = some k → knd.is k v = true ∧ v.scannable = true) (hb : n + 1 < scanBound) :
    ∀ (j i : Nat) (z : Shared), n - i = j → i ≤ n → St i z.heap → z.heap.SetOf knd D (fun k => decide (k ∈ ks.take i)) (dl (ks.take i)).length →
      (∀ h' tk, (∀ b o, b ∉ D :: wr → z.heap.get? b = some o → h'.get? b = some o) → h'.SetOf knd D (fun k => decide (k ∈ ks)) (dl ks).length → R (.ok (.ret .none)) { z with heap := h', toks := tk }) →
      codeAny (model prog w) A (.builtin "set.update.loop" ⟨[.ref D, .ref I], []⟩) R z := by
  have hDw : D ∉ wr := fun h => hD (W.sub _ h)
  intro j
  induction j with
  | zero =>
    intro i z hj hi st hS hR
    obtain rfl : i = n := by omega
    refine codeAny_builtin PyProof.Rows.F.entry_set_update_loop ?_
    rw [Around.under_plainId PyProof.Rows.F.plain_set_update_loop _]
    show wpAny _ A.in1 (pyNext (.ref I) >>= _) _ _ z
    refine wpAny_bind (W.done z _ _ st fun h' tk kk => ?_)
    rw [List.take_of_length_le (Nat.le_of_eq hn)] at hS
    obtain ⟨o, es, ep, t, ho, more⟩ := hS
    exact wpAny_pure (hR h' tk (fun b o hb e => kk b o (fun m => hb (List.mem_cons_of_mem _ m)) e) ⟨o, es, ep, t, kk D _ hDw ho, more⟩)
  | succ j ih =>
    intro i z hj hi st hS hR
    have lt : i < n := by omega
    refine codeAny_builtin PyProof.Rows.F.entry_set_update_loop ?_
    rw [Around.under_plainId PyProof.Rows.F.plain_set_update_loop _]
    show wpAny _ A.in1 (pyNext (.ref I) >>= _) _ _ z
    refine wpAny_bind (W.item i z _ _ lt st fun v h1 tk1 hP st1 k1 => ?_)
    have hk : ks[i]? = some (ks[i]'(by omega)) := List.getElem?_eq_getElem _
    obtain ⟨hv, hs⟩ := hval i v _ hP hk
    obtain ⟨o, es, ep, t, ho, more⟩ := hS
    have hS1 : h1.SetOf knd D (fun k => decide (k ∈ ks.take i)) (dl (ks.take i)).length := ⟨o, es, ep, t, k1 D _ hDw ho, more⟩
    show wpAny _ A.in1 (holding [v] (setAdd D v) >>= _) _ _ _
    refine wpAny_bind (wpAny_holding ?_)
    unfold setAdd
    refine wpAny_holding (wpAny_bind (knd.pyHash hv ?_))
    have room : (dl (ks.take i)).length + 1 < scanBound := by
      have a1 := dl_len_le (ks.take i)
      have a2 : (ks.take i).length ≤ i := List.length_take_le _ _
      omega
    refine wpAny_setAddHashed_of (knd := knd) (s := { z with heap := h1, toks := tk1 + 1 }) hv hs hS1 room fun h2 sb2 hS2 => ?_
    have et : ks.take (i + 1) = ks.take i ++ [ks[i]'(by omega)] := by rw [List.take_add_one, hk]; rfl
    have hS3 : h2.SetOf knd D (fun k => decide (k ∈ ks.take (i + 1))) (dl (ks.take (i + 1))).length := by
      refine SetOf_eqv hS2 (fun k => ?_) ?_
      · rw [et, Bool.eq_iff_iff]
        simp only [Bool.or_eq_true, decide_eq_true_eq, List.mem_append, List.mem_singleton]
      · rw [et, dl_snoc]
        unfold dstep
        by_cases q : ks[i]'(by omega) ∈ ks.take i
        · rw [if_pos (by simpa using q), if_pos (mem_dl.mpr q)]
        · rw [if_neg (by simpa using q), if_neg (fun z => q (mem_dl.mp z)), List.length_append, List.length_singleton]
    refine wpAny_pure ⟨plainId_quiet PyProof.Rows.F.plain_set_update_loop _, ih (i + 1) _ (by omega) lt (W.frame _ h1 _ st1 fun b hb o e => ?_) hS3 fun h' tk kk hS' => hR h' tk (fun b o hb e => kk b o hb ?_) hS'⟩
    · rw [sb2.2 b (fun q : b = D => hD (by rw [← q]; exact hb))]; exact e
    · rw [sb2.2 b (fun q : b = D => hb (by rw [q]; exact List.mem_cons_self))]; exact k1 b o (fun m => hb (List.mem_cons_of_mem _ m)) e
end
end L2
-- MOD Ex3
/-! set(..) of a list whose items are scanned keys; len of it. -/
namespace L2
open PySem PySem.Spec PyProof.Rows
noncomputable abbrev bareSet (b : Bool) : Obj := { cls := .type "set", dict := none, data := .set #[] 0 (.fresh 0 0 b) }
section
variable {κ : Type} [DecidableEq κ] {prog : Program} {w : World} {A : Around} {E : Value → Shared → Prop} {z : Shared}
noncomputable def SetMade (knd : KeyKind prog w κ) (ks : List κ) (z : Shared) (r : Value) (z' : Shared) : Prop :=
  r = .none ∧ ∃ h' tk, z' = { z with heap := h', toks := tk } ∧ h'.SetOf knd z.heap.objs.size (fun k => decide (k ∈ ks)) (dl ks).length ∧ ∀ b o, b < z.heap.objs.size → z.heap.get? b = some o → h'.get? b = some o
set_option maxHeartbeats 6400000 in
theorem call_setK {knd : KeyKind prog w κ} {l : Addr} {its : Array Value} {ks : List κ} {Q : Value → Shared → Prop} (hh : A.handled = none) (hl : z.heap.IsList l its) (hn : ks.length = its.size)
    (hv : ∀ (i : Nat) (v : Value) (k : κ), its[i]? = some v → ks[i]? = some k → knd.is k v = true ∧ v.scannable = true) (hb : its.size + 1 < scanBound)
    (h : ∀ z', SetMade knd ks z .none z' → Q (.ref z.heap.objs.size) z') : wpAny (model prog w) A (call (.type "set") [.ref l]) Q E z := by
  obtain ⟨mc, mt, m0⟩ := PySem.F.called_set.mro
  have m1 := PySem.F.called_set.made
  have m2 := PySem.F.called_set.sub
  refine wpAny_call (codeAny_of_tree ?_)
  show wpAny _ _ (callAny (.type "set") _) _ _ _
  refine wpAny_pure ⟨Code.quiet_builtin _ (by decide +kernel), codeAny_builtin PySem.F.entry_type_call ?_⟩
  rw [Around.under_plain (weight_type_call_type "set" [.ref l] []) rfl]
  have m3 := PySem.F.called_set.notType
  have m4 := PySem.F.called_set.canCreate
  have m5 := PySem.F.typeCall_set_1 (.ref l)
  repeat (any_goals (first | assumption | wp_step))
  refine codeAny_mono (code_set_new_1 (.ref l) (E := E) (Q₁ := fun r z1 => ∃ b : Bool, r = .ref z.heap.objs.size ∧ z1 = { z with heap := z.heap.push (bareSet b) }) fun b => ⟨b, rfl, rfl⟩) fun r z1 hr => ?_
  cases r with
  | error e => exact hr
  | ok fl =>
    cases fl with
    | next => exact hr.elim
    | brk => exact hr.elim
    | cont => exact hr.elim
    | ret r =>
      obtain ⟨b, rfl, rfl⟩ := hr
      have g0 : (z.heap.push (bareSet b)).get? z.heap.objs.size = some (bareSet b) := Heap.get?_push_size _ rfl
      have ty : Shared.TypeIs { z with heap := z.heap.push (bareSet b) } (.ref z.heap.objs.size) "set" := ⟨_, g0, rfl⟩
      have i1 := PySem.F.called_set.init.lookup
      have i2 := PySem.F.called_set.init.bind (.ref z.heap.objs.size)
      repeat (any_goals (first | assumption | wp_step))
      refine codeAny_mono (codeAny_call_builtin (R := wants (SetMade knd ks z) E) PySem.F.called_set.init.plain PySem.F.entry_set_init (check_set_init_1 ty ?_)) fun r2 z2 hr2 => ?_
      · obtain ⟨⟨oc, od, odt, osl⟩, ho, c1, nl, d1⟩ := hl
        simp only at c1 d1
        subst c1 d1
        have ho1 : (z.heap.push (bareSet b)).get? l = some { cls := .type "list", dict := od, data := .seq its nl, slots := osl } := Heap.get?_push_of_some _ ho
        have s1 := PySem.F.sub_list_set
        have s2 := PySem.F.sub_list_frozenset
        have s3 : (Value.type "list" == Value.type "dict") = false := by decide
        have hl1 : (z.heap.push (bareSet b)).IsList l its := ⟨_, ho1, rfl, nl, rfl⟩
        unfold Builtin.«set.__init__» noKeywords Builtin.Frozenset.updateFrom
        generalize ePI : pyIter = PI
        wp_walk
        subst ePI
        refine wpAny_pyIter_list hl1 ?_
        refine wpAny_bind (wpAny_runValue ?_)
        have lt : l < z.heap.objs.size := Heap.lt_size ho
        have sz1 : (z.heap.push (bareSet b)).objs.size = z.heap.objs.size + 1 := Heap.size_push _ _
        have neI : l ≠ (z.heap.push (bareSet b)).objs.size := by rw [sz1]; exact Nat.ne_of_lt (Nat.lt_succ_of_lt lt)
        have nD : z.heap.objs.size ∉ [(z.heap.push (bareSet b)).objs.size, l] := by
          rw [sz1]
          simp only [List.mem_cons, List.not_mem_nil, or_false, not_or]
          exact ⟨Nat.ne_of_lt (Nat.lt_succ_self _), Nat.ne_of_gt lt⟩
        refine set_loopK (Walks.list (by simp [hh]) _ l neI its) nD (knd := knd) (ks := ks) hn hv hb (its.size - 0) 0 _ (by omega) (Nat.zero_le _) ⟨⟨_, Heap.get?_push_size _ rfl, rfl, rfl⟩, hl1.push _⟩ ?_ fun h' tk kk hS => ?_
        · refine SetOf_eqv ((PyProof.Rows.setObjOf_fresh (knd := knd) b).setOf (Heap.get?_push_of_some _ g0) (by unfold scanBound; omega)) (fun k => ?_) rfl
          simp
        · show wpAny _ _ _ _ _ _
          refine wpAny_pure ?_
          show wpAny _ _ (ret Value.none) _ _ _
          refine wpAny_pure ⟨rfl, h', tk, rfl, hS, fun c o hc e => kk c o ?_ (Heap.get?_push_of_some _ (Heap.get?_push_of_some _ e))⟩
          rw [sz1]
          simp only [List.mem_cons, List.not_mem_nil, or_false, not_or]
          exact ⟨Nat.ne_of_lt hc, Nat.ne_of_lt (Nat.lt_succ_of_lt hc)⟩
      · cases r2 with
        | error e => exact hr2
        | ok fl2 =>
          cases fl2 with
          | next => exact hr2.elim
          | brk => exact hr2.elim
          | cont => exact hr2.elim
          | ret r =>
            have hs := hr2
            obtain ⟨rfl, h', tk, rfl, hS, kk⟩ := hr2
            repeat (any_goals (first | assumption | wp_step))
            exact h _ hs
end
noncomputable def SetS (P : Program) (w : World) (p : Addr) (ks : List Str) : HO := .ext fun h => h.SetOf (strKind P w) p (fun k => decide (k ∈ ks)) (dl ks).length
section
variable {X : Cx}
theorem strs_get : ∀ {ks : List Str} {us : List Value} {i : Nat} {v : Value} {k : Str}, Vals (ks.map V.str) us → us[i]? = some v → ks[i]? = some k → ∃ t, v = Value.str k t
  | [], _, i, v, k, .nil, h, _ => by simp at h
  | b :: r, _, 0, v, k, .cons a t, h, hk => by
    simp at h hk
    subst h hk
    exact a
  | b :: r, _, i + 1, v, k, .cons a t, h, hk => strs_get (ks := r) (i := i) t (by simpa using h) (by simpa using hk)
theorem call_set_strs (hc : X.calm = true) : CallR X (.type "set") (fun xs H Q => ∃ (p : Addr) (ks : List Str), xs = [.ref p] ∧ SqL X.K H p (ks.map V.str) ∧ ks.length ≤ 4000 ∧ ∀ d, H d = none → Q (.ref d) (upd H d (SetS X.prog X.w d ks))) := by
  intro pins s σ H xs us Q I r h
  obtain ⟨p, ks, rfl, hp, hz, q⟩ := h
  obtain ⟨u, rfl, ru⟩ := v1 r
  cases (show u = Value.ref p from ru)
  obtain ⟨its, rv, pl, _⟩ := I.list hp
  have hlen : its.length = ks.length := by rw [← rv.length, List.length_map]
  refine call_setK (knd := strKind X.prog X.w) (ks := ks) (I.ok.hd hc) pl.isList (by rw [List.size_toArray, hlen]) (fun i v k h1 h2 => ?_) (by rw [List.size_toArray, hlen]; unfold scanBound; omega) fun z' hs => ?_
  · obtain ⟨t, rfl⟩ := strs_get rv (by simpa using h1) h2
    exact ⟨strKind_is _ _ _ _, rfl⟩
  · obtain ⟨_, h', tk, rfl, hS, kk⟩ := hs
    refine ⟨.ref s.heap.objs.size, _, I.laid (t' := tk) (a := s.heap.objs.size) (o := SetS X.prog X.w s.heap.objs.size ks) (fun b o e => kk b o (Heap.lt_size e) e) (Nat.le_refl _) ?_, rfl, q _ (I.hok.fresh (Nat.le_refl _))⟩
    refine ⟨hS, ?_, fun h1 h2 hs1 k12 => ?_⟩
    · obtain ⟨o, _, _, _, e, _⟩ := hS
      exact ⟨o, e⟩
    · obtain ⟨o, es, ep, t, e, more⟩ := hs1
      exact ⟨o, es, ep, t, k12 o e, more⟩
theorem call_len_set_strs : CallR X (.builtin "len") (fun xs H Q => ∃ (d : Addr) (ks : List Str), xs = [.ref d] ∧ H d = some (SetS X.prog X.w d ks) ∧ ks.length ≤ 4000 ∧ Q (.int (dl ks).length) H) := by
  intro pins s σ H xs us Q I r h
  obtain ⟨d, ks, rfl, hd, hz, q⟩ := h
  obtain ⟨u, rfl, ru⟩ := v1 r
  cases (show u = Value.ref d from ru)
  obtain ⟨hS, _, _⟩ := I.hok d _ hd
  obtain ⟨o, es, ep, t, e, hex, hdt, _, _, hb, hf, hn⟩ := hS
  refine call_len_set e hex hdt hf ?_ ?_
  · unfold scanBound at hb; omega
  · rw [hn]
    exact ⟨.int _, H, I.tok _, ⟨_, rfl⟩, q⟩
end
end L2
-- MOD Ex4
/-! Helpers for a law's own text. -/
namespace L2
open PySem PySem.Spec PyProof.Rows
theorem ScOk.auto {X : Cx} {sc : Scope} {cl : List (Str × Addr)} {T : List Str} (h1 : closureFor sc X.env = pure cl := by rfl) (h2 : (sc.names.all fun y => y.2 != .cell) = true := by rfl) (h3 : sc.kind = .function := by rfl)
    (h4 : (sc.names.all fun x => x.2 != .local || sc.names.lookup x.1 == some .local) = true := by rfl)
    (h5 : ClOk X cl := by first | exact trivial | exact ⟨rfl, trivial⟩ | exact ⟨rfl, rfl, trivial⟩ | exact ⟨rfl, rfl, rfl, trivial⟩ | exact ⟨rfl, rfl, rfl, rfl, trivial⟩)
    (h6 : (sc.names.all fun x => x.2 != .free || ((cl.lookup x.1).isSome && (X.env.scope.names.lookup x.1 == some .cell || X.env.scope.names.lookup x.1 == some .free))) = true := by rfl)
    (h7 : (X.N.all fun x => sc.names.lookup x != some .local) = true := by rfl) : ScOk X sc cl T where
  clos := h1
  cell := fun y hy => by have := List.all_eq_true.mp h2 y hy; simpa using this
  kind := h3
  names := fun x hx hl => by
    have := List.all_eq_true.mp h4 x hx
    rw [hl] at this
    simpa using this
  cls := h5
  has := fun x hx hf => by
    have := List.all_eq_true.mp h6 x hx
    rw [hf] at this
    simpa using this
  out := fun x hx => by have := List.all_eq_true.mp h7 x hx; simpa using this

theorem comp_by {J : It} {n k : Nat} {σ : St} {H : Hp} {g : TG} {tt : TT} {te : TE} {Q : VK} (Pv : Nat → List V → Hp → Prop) (h0 : Pv 0 [] H) (go : ∀ i ys H, i < n → Pv i ys H → J.go i H) (stop : ∀ ys H, Pv n ys H → J.stop n H)
    (hz : ∀ i ys H, i ≤ n → Pv i ys H → ys.length ≤ sizeLine)
    (hs : ∀ i ys H x H', i < n → Pv i ys H → J.yld i H x H' → ∀ N : List V → Hp → Prop, (∀ ys H, Pv (i + 1) ys H → N ys H) → g x (σ ++ List.replicate k none) H' fun σ2 H2 => tt σ2 H2 fun b H3 => if b = true then te σ2 H3 fun y H4 => N (ys ++ [y]) H4 else N ys H3)
    (hd : ∀ ys H, Pv n ys H → ∀ p, H p = none → Q (.ref p) (upd H p (.lst ys))) : CompGoal J k σ H g tt te Q := by
  refine ⟨fun i m ys H => m = n - i ∧ i ≤ n ∧ Pv i ys H, ⟨n, by simp, Nat.zero_le _, h0⟩, ?_⟩
  rintro i m ys H ⟨rfl, hi, p⟩
  by_cases lt : i < n
  · exact .inr ⟨go i ys H lt p, hz _ _ _ hi p, fun x H' y => hs i ys H x H' lt p y (fun ys' H' => ∃ m', m' < n - i ∧ m' = n - (i + 1) ∧ i + 1 ≤ n ∧ Pv (i + 1) ys' H') fun ys' H' q => ⟨n - (i + 1), by omega, rfl, lt, q⟩⟩
  · obtain rfl : i = n := by omega
    exact .inl ⟨stop _ _ p, hz _ _ _ hi p, hd _ _ p⟩
theorem comp_chars {x : Str} {k : Nat} {σ : St} {H : Hp} {g : TG} {tt : TT} {te : TE} {Q : VK} (p : Nat → Bool) (f : Nat → V) (hz : x.length ≤ sizeLine)
    (hs : ∀ c (Ry : VK) (Rn : Hp → Prop), (p c = true → Ry (f c) H) → (p c = false → Rn H) → g (.str ⟨#[c]⟩) (σ ++ List.replicate k none) H fun σ2 H2 => tt σ2 H2 fun b H3 => if b = true then te σ2 H3 Ry else Rn H3)
    (hd : ∀ q, H q = none → Q (.ref q) (upd H q (.lst ((x.cps.toList.filter p).map f)))) : CompGoal (Its x) k σ H g tt te Q := by
  have hlen : x.cps.toList.length = x.length := by rw [Array.length_toList]; rfl
  refine comp_by (J := Its x) (n := x.length) (fun i ys H' => H' = H ∧ ys = ((x.cps.toList.take i).filter p).map f) ⟨rfl, rfl⟩ (fun i ys H' lt _ => lt) (fun ys H' _ => Nat.le_refl _) (fun i ys H' hi q => ?_) ?_ ?_
  · obtain ⟨_, rfl⟩ := q
    rw [List.length_map]
    have a := List.length_filter_le p (x.cps.toList.take i)
    have b := List.length_take_le i x.cps.toList
    omega
  · rintro i ys H' v H2 lt ⟨rfl, rfl⟩ ⟨rfl, c, hc, rfl⟩ N hN
    have hc' : x.cps.toList[i]? = some c := by rw [Array.getElem?_toList]; exact hc
    refine hs c _ _ (fun e => hN _ _ ⟨rfl, ?_⟩) (fun e => hN _ _ ⟨rfl, ?_⟩)
    · rw [List.take_add_one, hc', List.filter_append]
      simp [e]
    · rw [List.take_add_one, hc', List.filter_append]
      simp [e]
  · rintro ys H' ⟨rfl, rfl⟩ q hq
    rw [← hlen, List.take_length]
    exact hd q hq

theorem comp_list {K : PySem.W.Frag} {a : Addr} {xs : List V} {k : Nat} {σ : St} {H : Hp} {g : TG} {tt : TT} {te : TE} {Q : VK} (Pv : Nat → List V → Hp → Prop) (h0 : Pv 0 [] H) (hl : ∀ i ys H, Pv i ys H → SqL K H a xs)
    (hz : ∀ i ys H, i ≤ xs.length → Pv i ys H → ys.length ≤ sizeLine)
    (hs : ∀ i x ys H, xs[i]? = some x → Pv i ys H → ∀ N : List V → Hp → Prop, (∀ ys H, Pv (i + 1) ys H → N ys H) → g x (σ ++ List.replicate k none) H fun σ2 H2 => tt σ2 H2 fun b H3 => if b = true then te σ2 H3 fun y H4 => N (ys ++ [y]) H4 else N ys H3)
    (hd : ∀ ys H, Pv xs.length ys H → ∀ p, H p = none → Q (.ref p) (upd H p (.lst ys))) : CompGoal (Itl K a) k σ H g tt te Q := by
  refine comp_by (J := Itl K a) (n := xs.length) Pv h0 (fun i ys H lt p => ⟨xs, xs[i], hl i ys H p, List.getElem?_eq_getElem lt⟩) (fun ys H p => ⟨xs, hl _ ys H p, Nat.le_refl _⟩) hz ?_ hd
  rintro i ys H x H' lt p ⟨rfl, y⟩ N hN
  exact hs i x ys _ (y xs (hl _ _ _ p)) p N hN
theorem comp_range {lo : Int} {n k : Nat} {σ : St} {H : Hp} {g : TG} {tt : TT} {te : TE} {Q : VK} (Pv : Nat → List V → Hp → Prop) (h0 : Pv 0 [] H)
    (hz : ∀ i ys H, i ≤ n → Pv i ys H → ys.length ≤ sizeLine)
    (hs : ∀ i ys H, i < n → Pv i ys H → ∀ N : List V → Hp → Prop, (∀ ys H, Pv (i + 1) ys H → N ys H) → g (.int (lo + i)) (σ ++ List.replicate k none) H fun σ2 H2 => tt σ2 H2 fun b H3 => if b = true then te σ2 H3 fun y H4 => N (ys ++ [y]) H4 else N ys H3)
    (hd : ∀ ys H, Pv n ys H → ∀ p, H p = none → Q (.ref p) (upd H p (.lst ys))) : CompGoal (Itr lo n) k σ H g tt te Q := by
  refine comp_by (J := Itr lo n) (n := n) Pv h0 (fun i ys H lt p => lt) (fun ys H p => Nat.le_refl _) hz ?_ hd
  rintro i ys H x H' lt p ⟨rfl, rfl⟩ N hN
  exact hs i ys _ lt p N hN

theorem pick {A B : St → Hp → Prop} {σ : St} {H : Hp} {i : Nat} {x : V} (h : A (σ.set i (some x)) H) : gName i x σ H fun σ2 H2 => tYes σ2 H2 fun b H3 => if b = true then A σ2 H3 else B σ2 H3 := by
  show if true = true then A (σ.set i (some x)) H else B (σ.set i (some x)) H
  rw [if_pos rfl]
  exact h
theorem Fun.okC {P : Program} {w : World} {K : PySem.W.Frag} {mg : Str → Option Value} {base : Heap} {CX : CXT} {x qual : Str} {st : Stmt} {f : Addr} {fd : FuncData} {N ps : List Str} {k : Nat} {sp : Sp} (F : Fun K x qual st f fd) (S : FnScope N ps (defScope st)) (len : ∀ vs H Q E, sp vs H Q E → vs.length = ps.length)
    (hbody : ∀ (cdv : Value) (A : Around) (outer : List Env) (s : Shared) (H : Hp) (vs : List V) (Q : VK) (E : XK), Room k (A.deeper (envOfC qual (defScope st) s.heap.objs.size f cdv)) → sp vs H Q E →
      ∃ t, PSs (cxOf CX P w K mg base N qual (defScope st) f cdv A outer s H E).nox (defBody st) t ∧ t { nx := fun _ H' => Q .non H', rt := Q } (start N vs) H) : FnOk P w K mg base CX (k + 1) f fd ps sp := by
  obtain ⟨oc, od, kV, doc, pm, an, cdv, ct, osl, rfl, lk, hcd⟩ := F.ex
  refine fn_of lk hcd S len fun A outer s H vs Q E hr hsp => ?_
  obtain ⟨t, h, q⟩ := hbody cdv A outer s H vs Q E hr hsp
  exact ⟨t, h.nox, q⟩
noncomputable def Calm (CX : CXT) : Prop := ∀ o H s e s', CX o H s (fun _ _ _ => False) e s' → False
theorem passC {CX : CXT} (h : Calm CX) {X : Cx} : Passes CX X E0 := fun _ _ _ _ _ _ _ q => (h _ _ _ _ _ q).elim
structure Def (K : PySem.W.Frag) (mg : Str → Option Value) (x : Str) (st : Stmt) (ps : List Str) (f : Addr) (fd : FuncData) : Prop where
  fn : Fun K x x st f fd
  at_ : mg x = some (.ref f)
  bind : Binds K fd ps []
theorem Same.new {H : Hp} {p : Addr} {o : HO} (h : H p = none) : Same H (upd H p o) := fun b u e => by rw [upd_ne (ne_of_none e h)]; exact e
end L2
-- MOD Ex5
/-! zip, tuple targets, join, index, whole slices backwards, t + u from nothing. -/
namespace L2
open PySem PySem.Spec PyProof.Rows
section
variable {X : Cx} {pins : List (Addr × Obj)} {σ : St} {H : Hp} {s : Shared}
theorem Inv.adopt {T : Addr} {o : HO} (I : Inv X pins σ H s) (hn : H T = none) (h1 : X.s₀.heap.objs.size ≤ T) (hL : T ≠ X.env.locals) (h2 : ∀ x c, X.env.cells.lookup x = some c → c ≠ T) (h3 : ∀ p ∈ X.pn ++ pins, p.1 ≠ T)
    (new : ObjOk X.prog X.w (upd H T o) s.heap T o) : Inv X pins σ (upd H T o) s := by
  refine I.step (h' := s.heap) (g' := s.gens) (d' := s.drawn) (t' := s.toks) (ch := [T]) (fun b hb => ?_) (fun b o _ _ _ e _ => e) (fun b o _ _ _ e _ => ⟨o.slots, e⟩) (fun b o hc e n => ?_) (fun b o _ e => ⟨o, e⟩)
    (fun b xs e => ?_) (fun b o u e => ?_) (fun b ps e => ⟨#[], ?_⟩) (fun m h => h) (fun b u e => ?_) I.bare
  · have e : b = T := by simpa using hb
    subst e
    exact ⟨.inr (Heap.get?_none_of_le h1), hL, h2, h3⟩
  · rw [upd_ne (fun z => hc (by simp [z]))]
    exact n
  · rw [upd_ne (ne_of_none e hn)]; exact e
  · rw [upd_ne (ne_of_none e hn)]; exact e
  · rw [upd_ne (ne_of_none e hn), e]; simp
  · by_cases hb : b = T
    · subst hb
      rw [upd_same] at e
      cases e
      exact new
    · rw [upd_ne hb] at e
      exact (I.hok b u e).stay (fun c v _ q => q) (fun c q => by rw [upd_ne (ne_of_none q hn)]; exact q) fun c xs q => by rw [upd_ne (ne_of_none q hn)]; exact q
theorem Inv.turns {h' : Heap} {t' : Nat} {ch : List Addr} (I : Inv X pins σ H s) (k : ∀ b o, b ∉ ch → s.heap.get? b = some o → h'.get? b = some o) (hf : ∀ b ∈ ch, FpOk X pins H b) : Inv X pins σ H { s with heap := h', toks := t' } := by
  have nit : ∀ b u, H b = some u → b ∉ ch := fun b u e z => by rw [(hf b z).1] at e; cases e
  refine I.step (g' := s.gens) (d' := s.drawn) (ch := ch) (fun b hb => ⟨(hf b hb).2.2.2.1.imp_right fun z => Heap.get?_none_of_le z, (hf b hb).2.1, (hf b hb).2.2.2.2.1, (hf b hb).2.2.2.2.2⟩) (fun b o _ _ hc e _ => k b o hc e) (fun b o _ _ hc e _ => ⟨o.slots, k b o hc e⟩) (fun _ _ _ _ n => n)
    (fun b o hc e => ⟨o, k b o hc e⟩) (fun _ _ e => e) (fun _ _ _ e => e) (fun b ps e => ⟨#[], by rw [e]; simp⟩) (fun m hm => ?_) (fun b u e => ?_) I.bare
  · obtain ⟨o, es, ep, ho, r⟩ := hm
    exact ⟨o, es, ep, k _ o (fun z => (hf _ z).2.1 rfl) ho, r⟩
  · refine (I.hok b u e).stay (fun c v hc q => k c v ?_ q) (fun _ q => q) fun _ _ q => q
    rcases hc with z | z
    · rw [z]; exact nit b u e
    · exact nit c _ z
end
noncomputable def Itz (K : PySem.W.Frag) (a b : Addr) : It :=
  ⟨fun i H => ∃ xs ys x y, SqL K H a xs ∧ SqL K H b ys ∧ xs[i]? = some x ∧ ys[i]? = some y,
   fun i H v H' => ∃ p x y, v = .ref p ∧ H p = none ∧ H' = upd H p (.tup [x, y]) ∧ (∀ xs, SqL K H a xs → xs[i]? = some x) ∧ ∀ ys, SqL K H b ys → ys[i]? = some y,
   fun i H => ∃ xs ys, SqL K H a xs ∧ SqL K H b ys ∧ (xs.length ≤ i ∨ ys.length ≤ i)⟩
theorem turn_zip {P : Program} {w : World} {K : PySem.W.Frag} {es : List Expr} {x1 : _} {pos : Pos} {l1 l2 z TI TO i1 i2 : Addr} (D : ZipApart z TI TO i1 i2 l1 l2) :
    Turn P w K (.Tuple es x1 pos) (Itz K l1 l2) [z, TO, i1, i2, TI] z (fun i h => IsZip h z TI TO .none ∧ IsPair h TI (.ref i1) (.ref i2) ∧ (∃ a b, IsPair h TO a b) ∧ h.IsListIter i1 l1 i ∧ h.IsListIter i2 l2 i) where
  mem := by simp
  obj := fun i h st b hb => by
    obtain ⟨h1, h2, ⟨a, c, h3⟩, ⟨o4, h4, _, d4⟩, ⟨o5, h5, _, d5⟩⟩ := st
    simp only [List.mem_cons, List.not_mem_nil, or_false] at hb
    rcases hb with rfl | rfl | rfl | rfl | rfl
    · exact ⟨_, h1, fun v q => by cases (show Data.fields _ = Data.cell v from q)⟩
    · exact ⟨_, h3, fun v q => by cases (show Data.seq _ _ = Data.cell v from q)⟩
    · exact ⟨_, h4, fun v q => by rw [d4] at q; cases q⟩
    · exact ⟨_, h5, fun v q => by rw [d5] at q; cases q⟩
    · exact ⟨_, h2, fun v q => by cases (show Data.seq _ _ = Data.cell v from q)⟩
  keep := fun i h h' st k => by
    obtain ⟨h1, h2, ⟨a, c, h3⟩, h4, h5⟩ := st
    exact ⟨k z (by simp) _ h1, k TI (by simp) _ h2, ⟨a, c, k TO (by simp) _ h3⟩, h4.at fun o e => k i1 (by simp) o e, h5.at fun o e => k i2 (by simp) o e⟩
  item := by
    intro X hP hw hK hc i pins s σ H E I hf st hg
    subst hP hw hK
    obtain ⟨h1, h2, ⟨a, c, h3⟩, h4, h5⟩ := st
    obtain ⟨xs, ys, x, y, qx, qy, ex, ey⟩ := hg
    obtain ⟨its, rx, px, _⟩ := I.list qx
    obtain ⟨jts, ry, py, _⟩ := I.list qy
    obtain ⟨u, hu, ru⟩ := rx.get ex
    obtain ⟨v, hv, rv⟩ := ry.get ey
    refine wpAny_pyNext_zip_item D h1 h2 h3 h4 h5 px.isList py.isList (by simpa using hu) (by simpa using hv) fun h' a1 a2 a3 a4 a5 a6 a7 => ?_
    refine ⟨_, rfl, wpAny_letOwnedTupleGo_zip a1 fun h2' b1 sb => ?_⟩
    have nz : s.heap.objs.size ≠ z := fun e => by have := Heap.lt_size h1; rw [← e] at this; exact Nat.lt_irrefl _ this
    have J : Inv X pins σ H { s with heap := h2' } := I.turns (t' := s.toks) (ch := [z, TO, i1, i2, TI]) (fun b o hb e => by
      simp only [List.mem_cons, List.not_mem_nil, or_false, not_or] at hb
      exact (sb.2 b hb.1).trans (a7 b o hb.1 hb.2.1 hb.2.2.1 hb.2.2.2.1 e)) hf
    have gT : h2'.get? s.heap.objs.size = some { cls := .type "tuple", data := .seq #[u, v] } := (sb.2 _ nz).trans a5
    have fT : H s.heap.objs.size = none := I.hok.fresh (Nat.le_refl _)
    have J2 : Inv X pins σ (upd H s.heap.objs.size (.tup [x, y])) { s with heap := h2' } := J.adopt fT I.sz (Nat.ne_of_gt I.lt) (fun n c e => by
        obtain ⟨w', q⟩ := I.cell n c e
        exact Nat.ne_of_lt q.lt) (fun p hp => Nat.ne_of_lt (Heap.lt_size (I.pin p hp).1)) ⟨by show 2 ≤ sizeLine; decide, [u, v], .cons ru (.cons rv .nil), ⟨_, gT, rfl, _, rfl⟩⟩
    have keepB : ∀ b o, b ≠ z → h'.get? b = some o → h2'.get? b = some o := fun b o hb e => (sb.2 b hb).trans e
    refine ⟨.ref s.heap.objs.size, _, J2, rfl, ⟨_, x, y, rfl, fT, rfl, fun zs hz => by rw [I.list_inj hz qx]; exact ex, fun zs hz => by rw [I.list_inj hz qy]; exact ey⟩, ⟨b1, keepB _ _ D.TIz (a7 _ _ D.TIz D.TITO D.TIi1 D.TIi2 h2), ⟨_, _, keepB _ _ D.TOz a2⟩, a3.at fun o e => keepB _ _ D.i1z e, a4.at fun o e => keepB _ _ D.i2z e⟩, fun b hb => ?_⟩
    have hb' := (hf b hb).1
    have : b ≠ s.heap.objs.size := by
      rintro rfl
      obtain ⟨o, e⟩ : ∃ o, s.heap.get? s.heap.objs.size = some o := by
        simp only [List.mem_cons, List.not_mem_nil, or_false] at hb
        rcases hb with e | e | e | e | e <;> rw [e]
        · exact ⟨_, h1⟩
        · exact ⟨_, h3⟩
        · obtain ⟨o, q, _⟩ := h4; exact ⟨o, q⟩
        · obtain ⟨o, q, _⟩ := h5; exact ⟨o, q⟩
        · exact ⟨_, h2⟩
      exact Nat.lt_irrefl _ (Heap.lt_size e)
    rw [upd_ne this]
    exact hb'
  done := by
    intro X hP hw hK hc i pins s σ H E I hf st hg
    subst hP hw hK
    obtain ⟨h1, h2, ⟨a, c, h3⟩, h4, h5⟩ := st
    obtain ⟨xs, ys, qx, qy, hend⟩ := hg
    obtain ⟨its, rx, px, _⟩ := I.list qx
    obtain ⟨jts, ry, py, _⟩ := I.list qy
    have e1 := rx.length
    have e2 := ry.length
    refine wpAny_pyNext_zip_end (I.ok.hd hc) D h1 h2 h3 h4 h5 px.isList py.isList ?_ fun h' kk => ⟨rfl, I.turns (t' := s.toks) (ch := [z, TO, i1, i2, TI]) (fun b o hb e => ?_) hf⟩
    · rcases hend with q | q
      · exact .inl (by simp; omega)
      · exact .inr (by simp; omega)
    · simp only [List.mem_cons, List.not_mem_nil, or_false, not_or] at hb
      exact kk b o hb.1 hb.2.1 hb.2.2.1 hb.2.2.2.1 e
  self := fun _ _ _ _ _ st h => wpAny_pyIter_zip st.1 h
noncomputable def iZip (K : PySem.W.Frag) (ta : TA) : TI := fun σ H R => ta σ H fun vs H1 => ∃ a b, vs = [.ref a, .ref b] ∧ (∃ xs, SqL K H1 a xs) ∧ (∃ ys, SqL K H1 b ys) ∧ R (Itz K a b) H1
section
variable {X : Cx}
theorem pi_zip {es : List Expr} {x1 : _} {tp : Pos} {e1 e2 : Expr} {ta : TA} {p pos : Pos} (hg : Gl X "zip") (hm : X.mg "zip" = none) (ha : PA X [e1, e2] ta) (hs : starEach [e1, e2] X.env = [(false, eval e1 X.env), (false, eval e2 X.env)] := by rfl) (hs2 : starEach [e2] X.env = [(false, eval e2 X.env)] := by rfl) :
    PI X (.Tuple es x1 tp) (.Call (.Name "zip" p) [e1, e2] [] pos) (iZip X.K ta) := by
  intro pins s σ H R I h
  refine Call_ (ld_blt I hg hm boot_zip (PyProof.Rows.callWith_type1 (thn (ha pos pins s σ H _ I h) fun us s1 ⟨vs, H1, I1, r1, q1⟩ => ?_) (by rw [hs, hs2]) (by rw [hs2]; rfl)))
  obtain ⟨a, b, rfl, ⟨xs, qx⟩, ⟨ys, qy⟩, q⟩ := q1
  obtain ⟨u, v, rfl, ru, rv⟩ := v2 r1
  cases (show u = Value.ref a from ru)
  cases (show v = Value.ref b from rv)
  obtain ⟨its, rx, px, _⟩ := I1.list qx
  obtain ⟨jts, ry, py, _⟩ := I1.list qy
  have la : a < s1.heap.objs.size := by obtain ⟨_, e, _⟩ := px.isList; exact Heap.lt_size e
  have lb : b < s1.heap.objs.size := by obtain ⟨_, e, _⟩ := py.isList; exact Heap.lt_size e
  refine call_zip_2 px.isList py.isList fun h' a1 a2 a3 a4 a5 a6 a7 => wpAny_pyIter_zip a1 ?_
  have I2 : Inv X pins σ H1 { s1 with heap := h' } := I1.kept (t' := s1.toks) a7
  refine ⟨s1.heap.objs.size + 4, [s1.heap.objs.size + 4, s1.heap.objs.size + 3, s1.heap.objs.size, s1.heap.objs.size + 1, s1.heap.objs.size + 2], _, _, H1, rfl, I2, turn_zip (PyProof.Rows.zipApart_new la lb), ⟨a1, a2, ⟨_, _, a3⟩, a4, a5⟩, fun c hc => ?_, q⟩
  have hc' : s1.heap.objs.size ≤ c := by
    simp only [List.mem_cons, List.not_mem_nil, or_false] at hc
    rcases hc with e | e | e | e | e
    · rw [e]; exact Nat.le_add_right _ _
    · rw [e]; exact Nat.le_add_right _ _
    · rw [e]; exact Nat.le_refl _
    · rw [e]; exact Nat.le_add_right _ _
    · rw [e]; exact Nat.le_add_right _ _
  exact I1.fpOk hc' (I1.hok.fresh hc')
theorem mt_index : MtR X "str.index" (fun x xs H Q => ∃ z y i r, x = .str z ∧ xs = [.str y] ∧ Builtin.Str.occurrences z y 0 z.length 1 = i :: r ∧ Q (.int (i : Nat)) H) := by
  intro pins s σ H x xs v us Q I rx rs h
  obtain ⟨z, y, i, r, rfl, rfl, ho, q⟩ := h
  obtain ⟨t, rfl⟩ := rx
  obtain ⟨u, rfl, ru⟩ := v1 rs
  obtain ⟨t', rfl⟩ := ru
  exact PySem.SC.index ho ⟨.int _, H, I.tok _, ⟨_, rfl⟩, q⟩
theorem strs_vals : ∀ {ks : List Str} {us : List Value}, Vals (ks.map V.str) us → ∃ l : List (Str × Tok), us = strValues l ∧ l.map (·.1) = ks
  | [], _, .nil => ⟨[], rfl, rfl⟩
  | k :: r, _, .cons a t => by
    obtain ⟨tk, rfl⟩ := a
    obtain ⟨l, e1, e2⟩ := strs_vals t
    exact ⟨(k, tk) :: l, by rw [e1]; rfl, by rw [List.map_cons, e2]⟩
theorem mt_join {K : PySem.W.Frag} (hK : X.K = K) : MtR X "str.join" (fun x xs H Q => ∃ (z : Str) (p : Addr) (ks : List Str), x = .str z ∧ xs = [.ref p] ∧ SqL K H p (ks.map V.str) ∧ PySem.JoinOk z ks = true ∧ Q (.str (Txt.join z ks)) H) := by
  subst hK
  intro pins s σ H x xs v us Q I rx rs h
  obtain ⟨z, p, ks, rfl, rfl, hp, hj, q⟩ := h
  obtain ⟨t, rfl⟩ := rx
  obtain ⟨u, rfl, ru⟩ := v1 rs
  cases (show u = Value.ref p from ru)
  obtain ⟨its, rv, pl, _⟩ := I.list hp
  obtain ⟨l, rfl, el⟩ := strs_vals rv
  exact PySem.SC.join pl.isList el hj fun t' k => ⟨.str _, H, I.tok k, ⟨t', rfl⟩, q⟩
end
end L2
-- MOD Ex6
/-! Rules whose reading names the written part itself: for use within a comprehension. -/
namespace L2
open PySem PySem.Spec PyProof.Rows
section
variable {X : Cx} {K : PySem.W.Frag} {o e : Expr} {es : List Expr} {to ta tl : TE} {t : TA} {name f : Str} {apos cpos pos : Pos} {T id : String} {r : V → List V → Hp → VK → Prop} {tg : Expr}
theorem pe_bmK (hK : X.K = K) (pa : PlainAttrs T) (slot : Slot T name id) (hty : typeOf (.builtin id) = pure (.type "method_descriptor")) (hm : MtR X id r) (ho : PE X o to) (ha : PA X (e :: es) t)
    (hbase : attributeBase o name X.env (eval o X.env) = eval o X.env := by rfl)
    (hfew : ((backTo cpos (starEach (e :: es) X.env)).all (fun x => !x.1) && (backToKw cpos (keywordEach [] X.env)).all (fun x => x.1.isSome)
      && decide ((e :: es).length + ([] : List Keyword).length + (if ([] : List Keyword).isEmpty then 0 else 1) < 30)) = true := by rfl)
    (hline : (apos.endLine == cpos.line) = true := by rfl) (hs : starEach (e :: es) X.env = (false, eval e X.env) :: starEach es X.env := by rfl) (hplain : (backTo cpos (starEach es X.env)).any (·.1) = false := by rfl) :
    PE X (.Call (.Attribute o name apos) (e :: es) [] cpos) (tBM K T r to t) := by
  subst hK
  exact pe_bm pa slot hty hm ho ha hbase hfew hline hs hplain
theorem pe_fldK (hK : X.K = K) (he : PE X e ta) (hb : attributeBase e f X.env (eval e X.env) = eval e X.env) : PE X (.Attribute e f pos) (tFld K ta f) := by
  subst hK
  exact pe_fld he hb
theorem pg_tupK (hK : X.K = K) {es : List Expr} {k : Nat} {t : TGs} {n : Nat} (hc : X.calm = true) (h : PGs X es t)
    (hn : (assignEach es X.env).length = n := by rfl) (hst : (assignEach es X.env).findIdx? (·.1) = none := by rfl) : PG X (.Tuple es k pos) (gTup K n t) := by
  subst hK
  exact pg_tup hc h hn hst
end
end L2
-- MOD Ex7
/-! Displays of constants, and of lists of constants, at once. -/
namespace L2
open PySem PySem.Spec PyProof.Rows
noncomputable def constV : Expr → Option V
  | .Constant (.int i) _ _ => some (.int i)
  | .Constant (.str x) _ _ => some (.str x)
  | .Constant (.bool b) _ _ => some (.bl b)
  | .Constant .none _ _ => some .non
  | _ => none
theorem const_pe {X : Cx} {e : Expr} {v : V} (h : constV e = some v) : PE X e (tC v) ∧ ∀ es, starEach (e :: es) X.env = (false, eval e X.env) :: starEach es X.env := by
  unfold constV at h
  split at h
  · cases h; exact ⟨pe_int, fun _ => rfl⟩
  · cases h; exact ⟨pe_str, fun _ => rfl⟩
  · cases h; exact ⟨pe_bl, fun _ => rfl⟩
  · cases h; exact ⟨pe_non, fun _ => rfl⟩
  · cases h
noncomputable def tConsts (vs : List V) : TA := fun _ H Q => Q vs H
theorem pa_consts {X : Cx} : ∀ {es : List Expr} {vs : List V}, es.map constV = vs.map some → PA X es (tConsts vs)
  | [], [], _ => pa_nil
  | [], _ :: _, h => by cases h
  | _ :: _, [], h => by cases h
  | e :: es, v :: vs, h => by
    rw [List.map_cons, List.map_cons] at h
    injection h with h1 h2
    obtain ⟨p, q⟩ := const_pe (X := X) h1
    exact pa_cons p (pa_consts h2) (q es)
noncomputable def constL : Expr → Option (List V)
  | .List es _ => es.mapM constV
  | _ => none
theorem mapM_const : ∀ {es : List Expr} {vs : List V}, es.mapM constV = some vs → es.map constV = vs.map some
  | [], vs, h => by
    rw [List.mapM_nil] at h
    cases h
    rfl
  | e :: es, vs, h => by
    rw [List.mapM_cons] at h
    cases q : constV e with
    | none => rw [q] at h; cases h
    | some v =>
      rw [q] at h
      cases r : es.mapM constV with
      | none => rw [r] at h; cases h
      | some ws =>
        rw [r] at h
        cases h
        rw [List.map_cons, List.map_cons, q, mapM_const r]
noncomputable def Laid (H H' : Hp) : List (List V) → List V → Prop := Paired fun vs r => ∃ a, r = V.ref a ∧ H a = none ∧ H' a = some (.lst vs)
theorem Laid.mono {H0 H H' H2 : Hp} (s0 : Same H0 H) (s : Same H' H2) {vss : List (List V)} {rs : List V} (h : Laid H H' vss rs) : Laid H0 H2 vss rs :=
  Paired.mapP h fun vs r ⟨a, e, n, q⟩ => ⟨a, e, s0.free n, s _ _ q⟩
noncomputable def tLists (vss : List (List V)) : TA := fun _ H Q => ∀ rs H', Same H H' → Laid H H' vss rs → Q rs H'
theorem pa_lists {X : Cx} : ∀ {es : List Expr} {vss : List (List V)}, es.map constL = vss.map some → (vss.all fun vs => decide (vs.length ≤ 1000)) = true → PA X es (tLists vss)
  | [], [], _, _ => fun pos pins s σ H Q I h => pa_nil pos pins s σ H Q I (h [] H (Same.refl _) .nil)
  | [], _ :: _, h, _ => by cases h
  | _ :: _, [], h, _ => by cases h
  | e :: es, vs :: vss, h, hz => by
    rw [List.map_cons, List.map_cons] at h
    injection h with h1 h2
    rw [List.all_cons, Bool.and_eq_true] at hz
    have ih := pa_lists (X := X) h2 hz.2
    cases e with
    | List ls lp =>
      have hc := mapM_const (show ls.mapM constV = some vs from h1)
      have pe : PE X (.List ls lp) (tLst (tConsts vs)) := pe_lst (pa_consts hc)
      intro pos pins s σ H Q I q
      refine pa_cons pe ih rfl pos pins s σ H Q I ?_
      refine ⟨Nat.le_of_lt (small1000 (of_decide_eq_true hz.1)), fun p hp rs H' s' l' => ?_⟩
      exact q _ _ ((Same.new hp).trans s') (.cons ⟨p, rfl, hp, s' _ _ upd_same⟩ (l'.mono (Same.new hp) (Same.refl _)))
    | _ => cases h1
end L2
-- MOD Ex8
/-! Tuples put together, a list backwards. -/
namespace L2
open PySem PySem.Spec PyProof.Rows
section
variable {X : Cx}
noncomputable def rRev (K : PySem.W.Frag) (te : TE) : TE := fun σ H Q => te σ H fun x H1 => ∃ a xs, x = .ref a ∧ SqL K H1 a xs ∧ ∀ p, H1 p = none → Q (.ref p) (upd H1 p (.lst xs.reverse))
theorem pe_rev {e : Expr} {te : TE} {k : Nat} {p1 p2 p3 pos : Pos} (he : PE X e te) : PE X (.Subscript e (.Slice none none (some (.UnaryOp .USub (.Constant (.int 1) k p1) p2)) p3) pos) (rRev X.K te) := by
  intro pins s σ H Q I h
  refine Subscript_ (thn (he pins s σ H _ I h) fun v s1 ⟨x, H1, I1, r1, q1⟩ => ?_)
  obtain ⟨a, xs, rfl, hx, q⟩ := q1
  cases r1
  refine wpAny_Slice ?_
  rw [evalPart_none]
  refine wpAny_pure (wpAny_pure ?_)
  rw [evalPart_some]
  refine thn (pe_un un_neg (pe_int (X := X) (i := 1)) pins s1 σ H1 (fun y H2 => y = .int (-1) ∧ H2 = H1) I1 ⟨1, rfl, rfl, rfl⟩) fun u s2 ⟨y, H2, I2, r2, ey, eh⟩ => ?_
  subst ey eh
  obtain ⟨t, rfl⟩ := r2
  have I4 : Inv X pins σ H2 { s2 with heap := s2.heap.push { cls := .type "slice", data := .fields #[.none, .none, .int (-1) t] } } := I2.kept (t' := s2.toks) fun b ob q => Heap.get?_push_of_some _ q
  obtain ⟨its, r, ht, hz⟩ := I4.list hx
  have hlen := r.length
  refine tail_any (ops := [.ref a, .ref s2.heap.objs.size]) ht.isList.typeIs slot_list_getitem.lookup ?_ (by with_unfolding_all rfl)
  refine wpAny_getItem_list_slice ht.isList (Heap.IsSliceOf.new ..) .none .none (.int _ _) (by decide) ?_ (by rw [List.size_toArray]; omega)
  rw [PySem.W.krv_pick]
  exact ⟨.ref _, _, I4.laid (t' := s2.toks) (o := .lst xs.reverse) (fun b ob q => Heap.get?_push_of_some _ q) (Nat.le_refl _) ⟨by rw [List.length_reverse]; exact hz, _, 0, r.reverse, Heap.get?_push_size _ rfl⟩, rfl, q _ (I4.hok.fresh (Nat.le_refl _))⟩
end
end L2
-- MOD Ex9
/-! min by a key of texts, over any heap. -/
namespace L2
open PySem PySem.Spec PyProof.Rows
noncomputable def Kept (h h' : Heap) : Prop := ∀ b o, h.get? b = some o → h'.get? b = some o
theorem Kept.trans {a b c : Heap} (x : Kept a b) (y : Kept b c) : Kept a c := fun p o e => y p o (x p o e)
theorem Kept.push (h : Heap) (o : Obj) : Kept h (h.push o) := fun _ _ e => Heap.get?_push_of_some _ e
theorem Kept.same {g h h' : Heap} {a : Addr} (k : Kept g h) (ha : g.objs.size ≤ a) (sb : Heap.SameBut a h h') : Kept g h' := fun b o e =>
  (sb.2 b (Nat.ne_of_lt (Nat.lt_of_lt_of_le (Heap.lt_size e) ha))).trans (k b o e)
theorem Kept.but {g h h' : Heap} {a : Addr} (k : Kept g h) (ha : g.objs.size ≤ a) (sb : ∀ b o, b ∉ [a] → h.get? b = some o → h'.get? b = some o) : Kept g h' := fun b o e =>
  sb b o (fun z => Nat.ne_of_lt (Nat.lt_of_lt_of_le (Heap.lt_size e) ha) (List.mem_singleton.mp z)) (k b o e)
noncomputable def ltS (a b : Str) : Prop := a.cps.toList < b.cps.toList
noncomputable instance (a b : Str) : Decidable (ltS a b) := inferInstanceAs (Decidable (a.cps.toList < b.cps.toList))
theorem ltS_trans {a b c : Str} (x : ltS a b) (y : ltS b c) : ltS a c := List.lt_trans x y
section
variable {P : Program} {w : World} {A : Around} {E : Value → Shared → Prop} {z : Shared} {g : Heap} {l q I S : Addr} {vs : List Value} {R : Result → Shared → Prop}
noncomputable def KeyEnd (z : Shared) (h : Heap) (k : Str) (u : Value) (y : Shared) : Prop := ∃ (h' : Heap) (tk' : Nat) (t : Tok), u = .str k t ∧ y = { z with heap := h', toks := tk' } ∧ Kept h h'
theorem min_loop (ks : Nat → Str) (hh : A.handled = none) (hl : g.IsList l vs.toArray) (hI : g.objs.size ≤ I) (hS : g.objs.size ≤ S) (ne : S ≠ I)
    (turn : ∀ i v, vs[i]? = some v → ∀ (h : Heap) (tk : Nat), Kept g h → wpAny (model P w) A.in1 (call (.ref q) [v]) (KeyEnd z h (ks i)) (fun _ _ => False) { z with heap := h, toks := tk })
    (fin : ∀ i v h tk, vs[i]? = some v → (∀ j, j < vs.length → ¬ ltS (ks j) (ks i)) → Kept g h → R (.ok (.ret v)) { z with heap := h, toks := tk }) :
    ∀ (r j i : Nat) (h : Heap) (tk : Nat) (b : Value) (t : Tok) (n : Nat), vs.length - (j + 1) = r → j + 1 ≤ vs.length → Kept g h → h.get? S = some (seqObj "list" #[b, .str (ks i) t] n) → h.IsListIter I l (j + 1) →
      vs[i]? = some b → i ≤ j → (∀ k, k ≤ j → ¬ ltS (ks k) (ks i)) → codeAny (model P w) A (.builtin "min.loop" ⟨[.ref I, .ref q, .ref S], []⟩) R { z with heap := h, toks := tk } := by
  have nm : (toString "min" ++ toString ".loop" : String) = "min.loop" := by decide
  have hlI : l ≠ I := by
    obtain ⟨o, e, _⟩ := hl
    exact Nat.ne_of_lt (Nat.lt_of_lt_of_le (Heap.lt_size e) hI)
  have W := Walks.list (prog := P) (w := w) (A := A.in1) hh I l hlI vs.toArray
  have sz : vs.toArray.size = vs.length := by simp
  have lst : ∀ {h}, Kept g h → h.IsList l vs.toArray := fun {h} k => by
    obtain ⟨o, e, r⟩ := hl
    exact ⟨o, k _ _ e, r⟩
  intro r
  induction r with
  | zero =>
    intro j i h tk b t n hr hj k hs it hb hij best
    have hin : j + 1 = vs.length := by omega
    refine codeAny_builtin PySem.F.entry_min_loop ?_
    rw [Around.under_plainId PySem.F.plain_min_loop _]
    show wpAny _ A.in1 (seqItems? (Value.ref S) >>= _) _ _ _
    refine wpAny_bind (wpAny_seqItems hs rfl ?_)
    show wpAny _ A.in1 (tryCatch (pyNext (Value.ref I)) _ >>= _) _ _ _
    refine wpAny_bind (wpAny_tryCatch (W.done _ _ _ ⟨by rw [sz, ← hin]; exact it, lst k⟩ fun h1 tk1 k1 => ?_))
    have e1 := k1 S _ (by simpa using ne) hs
    show wpAny _ A.in1 (updateSeq S (fun _ => (#[] : Array Value)) >>= _) _ _ _
    refine wpAny_bind (wpAny_updateSeq e1 rfl (wpAny_bind (wpAny_letGo (wpAny_pure ?_))))
    exact fin i b _ _ hb (fun k' hk => best k' (by omega)) ((k.but hI k1).same hS (Heap.SameBut.update h1 S _))
  | succ r ih =>
    intro j i h tk b t n hr hj k hs it hb hij best
    have hlt : j + 1 < vs.length := by omega
    refine codeAny_builtin PySem.F.entry_min_loop ?_
    rw [Around.under_plainId PySem.F.plain_min_loop _]
    show wpAny _ A.in1 (seqItems? (Value.ref S) >>= _) _ _ _
    refine wpAny_bind (wpAny_seqItems hs rfl ?_)
    show wpAny _ A.in1 (tryCatch (pyNext (Value.ref I)) _ >>= _) _ _ _
    refine wpAny_bind (wpAny_tryCatch (W.item (j + 1) _ _ _ (by rw [sz]; exact hlt) ⟨it, lst k⟩ fun v h1 tk1 hp st k1 => ?_))
    have hv : vs[j + 1]? = some v := by simpa using hp
    have e1 := k1 S _ (by simpa using ne) hs
    have kg := k.but hI k1
    show wpAny _ A.in1 (tryCatch (holding [v] (call (Value.ref q) [v])) _ >>= _) _ _ _
    refine wpAny_bind (wpAny_tryCatch (wpAny_holding (wpAny_mono (turn (j + 1) v hv h1 tk1 kg) (fun u y he => ?_) fun _ _ f => f.elim)))
    obtain ⟨h2, tk2, t2, rfl, rfl, k2⟩ := he
    have e2 := k2 S _ e1
    have it2 : h2.IsListIter I l (j + 1 + 1) := st.1.at fun o e => k2 _ _ e
    have kg2 := kg.trans k2
    show wpAny _ A.in1 (tryCatch (holding [v, Value.str (ks (j + 1)) t2] (richCompare .Lt (Value.str (ks (j + 1)) t2) (Value.str (ks i) t) >>= _)) _ >>= _) _ _ _
    refine wpAny_bind (wpAny_tryCatch (wpAny_holding (wpAny_bind (show wpAny _ _ (compareOp .Lt (Value.str (ks (j + 1)) t2) (Value.str (ks i) t)) _ _ _ from lt_str ?_))))
    refine wpAny_bind (wpAny_holding (wpAny_truthy_bool ?_))
    refine wpAny_bind (wpAny_letGo (wpAny_pure ?_))
    by_cases c : ltS (ks (j + 1)) (ks i)
    · have c' : (ks (j + 1)).cps.toList < (ks i).cps.toList := c
      obtain ⟨n2, g2⟩ : ∃ n2, (h2.update S (Obj.mapSeq fun _ => #[v, Value.str (ks (j + 1)) t2])).get? S = some (seqObj "list" #[v, Value.str (ks (j + 1)) t2] n2) := ⟨_, get?_update_seq e2 fun _ => #[v, Value.str (ks (j + 1)) t2]⟩
      have s2 := Heap.SameBut.update h2 S (Obj.mapSeq fun _ => #[v, Value.str (ks (j + 1)) t2])
      simp only [c', decide_true, if_true]
      refine wpAny_bind (wpAny_updateSeq e2 rfl (wpAny_bind (wpAny_letGo ?_)))
      rw [nm]
      refine wpAny_pure ⟨plainId_quiet PySem.F.plain_min_loop _, ih (j + 1) (j + 1) _ _ v t2 n2 (by omega) hlt (kg2.same hS s2) g2 (it2.at fun o e => (s2.2 I (Ne.symm ne)).trans e) hv (Nat.le_refl _) fun k' hk => ?_⟩
      by_cases e : k' = j + 1
      · subst e
        exact fun z => List.lt_irrefl _ z
      · exact fun z => best k' (by omega) (ltS_trans z c)
    · have c' : ¬ (ks (j + 1)).cps.toList < (ks i).cps.toList := c
      simp only [c', decide_false, Bool.false_eq_true, if_false]
      refine wpAny_bind (wpAny_letGo ?_)
      rw [nm]
      refine wpAny_pure ⟨plainId_quiet PySem.F.plain_min_loop _, ih (j + 1) i _ _ b t n (by omega) hlt kg2 e2 it2 hb (by omega) fun k' hk => ?_⟩
      by_cases e : k' = j + 1
      · subst e; exact c
      · exact best k' (by omega)
theorem min_key {Q : Value → Shared → Prop} (ks : Nat → Str) (hh : A.handled = none) (hl : z.heap.IsList l vs.toArray) (h0 : 0 < vs.length)
    (turn : ∀ i v, vs[i]? = some v → ∀ (h : Heap) (tk : Nat), Kept z.heap h → wpAny (model P w) A.in1 (call (.ref q) [v]) (KeyEnd z h (ks i)) (fun _ _ => False) { z with heap := h, toks := tk })
    (fin : ∀ i v h tk, vs[i]? = some v → (∀ j, j < vs.length → ¬ ltS (ks j) (ks i)) → Kept z.heap h → Q v { z with heap := h, toks := tk }) :
    wpAny (model P w) A (call (.builtin "min") [.ref l] [(Str.ofString "key", .ref q)]) Q E z := by
  have nm : (toString "min" ++ toString ".loop" : String) = "min.loop" := by decide
  refine kmk_tree PySem.F.kind_min PySem.F.plain_min PySem.F.entry_min (kmk_min_key _ _) ?_
  show wpAny _ A.in1 (Builtin.Builtins.bindParams "min" ["key", "default"] 0 ⟨[], [(Str.ofString "key", Value.ref q)]⟩ >>= _) _ _ z
  refine wpAny_bind (wpAny_of_eq (show Builtin.Builtins.bindParams "min" ["key", "default"] 0 ⟨[], [(Str.ofString "key", Value.ref q)]⟩ = pure [some (Value.ref q), none] from rfl) ?_)
  refine wpAny_bind (wpAny_pure (wpAny_bind (wpAny_pyIter_list hl (wpAny_bind (wpAny_newList ?_ (Nat.zero_le _))))))
  rw [nm]
  refine wpAny_pure ⟨plainId_quiet PySem.F.plain_min_loop _, ?_⟩
  let oI : Obj := { cls := .type "list_iterator", data := .fields #[.ref l, .int 0 0] }
  have sz1 : (z.heap.push oI).objs.size = z.heap.objs.size + 1 := Heap.size_push ..
  have gI : ((z.heap.push oI).push (seqObj "list" #[] 0)).get? z.heap.objs.size = some oI := Heap.get?_push_of_some _ (Heap.get?_push_size _ rfl)
  have gS : ((z.heap.push oI).push (seqObj "list" #[] 0)).get? (z.heap.push oI).objs.size = some (seqObj "list" #[] 0) := Heap.get?_push_size _ rfl
  have kk : Kept z.heap ((z.heap.push oI).push (seqObj "list" #[] 0)) := (Kept.push _ _).trans (Kept.push _ _)
  have hI : z.heap.objs.size ≤ z.heap.objs.size := Nat.le_refl _
  have hS : z.heap.objs.size ≤ (z.heap.push oI).objs.size := by rw [sz1]; exact Nat.le_succ _
  have ne : (z.heap.push oI).objs.size ≠ z.heap.objs.size := by rw [sz1]; exact Nat.succ_ne_self _
  have hlI : l ≠ z.heap.objs.size := by
    obtain ⟨o, e, _⟩ := hl
    exact Nat.ne_of_lt (Heap.lt_size e)
  have W := Walks.list (prog := P) (w := w) (A := A.in1) hh z.heap.objs.size l hlI vs.toArray
  have sz : vs.toArray.size = vs.length := by simp
  have lst : ∀ {h}, Kept z.heap h → h.IsList l vs.toArray := fun {h} k => by
    obtain ⟨o, e, r⟩ := hl
    exact ⟨o, k _ _ e, r⟩
  refine codeAny_builtin PySem.F.entry_min_loop ?_
  rw [Around.under_plainId PySem.F.plain_min_loop _]
  show wpAny _ A.in1 (seqItems? (Value.ref (z.heap.push oI).objs.size) >>= _) _ _ _
  refine wpAny_bind (wpAny_seqItems gS rfl ?_)
  show wpAny _ A.in1 (tryCatch (pyNext (Value.ref z.heap.objs.size)) _ >>= _) _ _ _
  refine wpAny_bind (wpAny_tryCatch (W.item 0 _ _ _ (by rw [sz]; exact h0) ⟨⟨_, gI, rfl, rfl⟩, lst kk⟩ fun v h1 tk1 hp st k1 => ?_))
  have hv : vs[0]? = some v := by simpa using hp
  have e1 := k1 _ _ (by simpa using ne) gS
  have kg := kk.but hI k1
  show wpAny _ A.in1 (tryCatch (holding [v] (call (Value.ref q) [v])) _ >>= _) _ _ _
  refine wpAny_bind (wpAny_tryCatch (wpAny_holding (wpAny_mono (turn 0 v hv h1 tk1 kg) (fun u y he => ?_) fun _ _ f => f.elim)))
  obtain ⟨h2, tk2, t2, rfl, rfl, k2⟩ := he
  have e2 := k2 _ _ e1
  have s2 := Heap.SameBut.update h2 (z.heap.push oI).objs.size (Obj.mapSeq fun _ => #[v, Value.str (ks 0) t2])
  obtain ⟨n2, g2⟩ : ∃ n2, (h2.update (z.heap.push oI).objs.size (Obj.mapSeq fun _ => #[v, Value.str (ks 0) t2])).get? (z.heap.push oI).objs.size = some (seqObj "list" #[v, Value.str (ks 0) t2] n2) := ⟨_, get?_update_seq e2 fun _ => #[v, Value.str (ks 0) t2]⟩
  show wpAny _ A.in1 (updateSeq (z.heap.push oI).objs.size (fun _ => #[v, Value.str (ks 0) t2]) >>= _) _ _ _
  refine wpAny_bind (wpAny_updateSeq e2 rfl ?_)
  rw [nm]
  refine wpAny_pure ⟨plainId_quiet PySem.F.plain_min_loop _, min_loop ks hh hl hI hS ne turn fin _ 0 0 _ _ v t2 n2 rfl h0 ((kg.trans k2).same hS s2) g2 ((st.1.at fun o e => k2 _ _ e).at fun o e => (s2.2 _ (Ne.symm ne)).trans e) hv (Nat.le_refl _) fun k' hk => ?_⟩
  have : k' = 0 := by omega
  subst this
  exact fun z => List.lt_irrefl _ z
end
end L2
-- MOD Ex10
/-! A lambda that tells an attribute, as min's key; the table of places in its def's code. -/
namespace L2
open PySem PySem.Spec PyProof.Rows
noncomputable def CodeO (c : Addr) (q : Str) : HO := .ext fun h => h.CodeRec (.ref c) q
noncomputable def TabOk (H : Hp) (P : Addr) (pos : Pos) (q : Str) : Prop := H P = some (.tbl #[]) ∨ ∃ c, H P = some (.tbl #[rawInt pos.line, rawInt pos.col, .ref c]) ∧ H c = some (CodeO c q)
noncomputable def GrownBut (P : Addr) (H H' : Hp) : Prop := ∀ b o, H b = some o → b ≠ P → H' b = some o
theorem TabOk.ne {H : Hp} {P : Addr} {pos : Pos} {q : Str} (T : TabOk H P pos q) {a : Addr} {o : HO} (e : H a = some o) (h : ∀ ps, o ≠ .tbl ps) : a ≠ P := by
  rintro rfl
  rcases T with z | ⟨c, z, _⟩ <;> rw [e] at z <;> exact h _ (Option.some.inj z)
theorem TabOk.stay {H H' : Hp} {P : Addr} {pos : Pos} {q : Str} (T : TabOk H P pos q) (k : ∀ b o, H b = some o → H' b = some o) : TabOk H' P pos q := by
  rcases T with z | ⟨c, z, y⟩
  · exact .inl (k _ _ z)
  · exact .inr ⟨c, k _ _ z, k _ _ y⟩
theorem TabOk.but {H H' : Hp} {P : Addr} {pos : Pos} {q : Str} {p : Addr} {u : HO} (T : TabOk H P pos q) (hp : H p = some u) (h1 : ∀ ps, u ≠ .tbl ps) (h2 : ∀ f, u ≠ .ext f) (k : ∀ b o, H b = some o → b ≠ p → H' b = some o) : TabOk H' P pos q := by
  have n1 := T.ne hp h1
  rcases T with z | ⟨c, z, y⟩
  · exact .inl (k _ _ z (Ne.symm n1))
  · refine .inr ⟨c, k _ _ z (Ne.symm n1), k _ _ y ?_⟩
    rintro rfl
    rw [hp] at y
    exact h2 _ (Option.some.inj y)
noncomputable def BltAt (mg : Str → Option Value) (base : Heap) : Prop := ∃ (bm : Addr) (ob : Obj), mg "__builtins__" = some (.ref bm) ∧ bm ≠ builtinsNs ∧ bm ≠ mainGlobals ∧ base.get? bm = some ob ∧ ob.cls = .type "module" ∧ ob.dict = some builtinsNs ∧ ob.data = .plain
structure LamTxt (K : PySem.W.Frag) (mg : Str → Option Value) (base : Heap) (c P : Addr) : Prop where
  hd : PySem.W.codeHdIn K c P = true
  blt : BltAt mg base
section
variable {X : Cx} {pins : List (Addr × Obj)} {σ : St} {H : Hp} {s : Shared} {A : Around} {E : Value → Shared → Prop}
theorem rec_stays {c : Addr} {q : Str} : ∀ h1 h2 : Heap, h1.CodeRec (.ref c) q → (∀ o, h1.get? c = some o → h2.get? c = some o) → h2.CodeRec (.ref c) q := fun h1 h2 ⟨c', o, vs, t, e, ho, r⟩ k => by
  cases e
  exact ⟨c, o, vs, t, rfl, k o ho, r⟩
theorem lam_made {params : Arguments} {body : Expr} {scope : Scope} {pos : Pos} {c P : Addr} {q : Str} {Q : Value → Shared → Prop} (I : Inv X pins σ H s) (T : LamTxt X.K X.mg X.base c P) (hcode : X.env.code = .ref c) (hq : X.env.qual ++ "<lambda>" = q)
    (hcl : closureFor scope X.env = pure []) (hdef : defaultsOf params X.env = ([], [])) (W : TabOk H P pos q)
    (h : ∀ (H' : Hp) (s' : Shared) (f c' : Addr) (pm ctv : Value), Inv X pins σ H' s' → s'.heap.get? f = some (PySem.W.kla_obj "<lambda>" q params body scope [] pm c' ctv) → s'.heap.CodeRec (.ref c') q → TabOk H' P pos q → GrownBut P H H' → Q (.ref f) s') :
    wpAny (model X.prog X.w) A (eval (.Lambda params body scope pos) X.env) Q E s := by
  subst hq
  refine PySem.W.kla_eval hdef ?_
  obtain ⟨bm, ob, e1, e3, e4, e2, e5, e6, e7⟩ := T.blt
  have hbP : bm ≠ P := by
    rintro rfl
    have := (I.bs _ _ e2).2
    rcases W with z | ⟨c', z, _⟩ <;> rw [this] at z <;> cases z
  have hb : s.heap.BuiltinsAt X.mg P := ⟨bm, ob, e1, e3, e4, hbP, I.bk _ _ e2, e5, e6, e7⟩
  have hg := I.mod.glob.keeps I.bk
  have C := PySem.W.codeHd_of_K I.kIn T.hd
  have tab : ∀ {ps}, H P = some (.tbl ps) → s.heap.get? P = some (PySem.W.tabObj ps) := fun {ps} e => I.hok P _ e
  have hgP : mainGlobals ≠ P := by
    rintro rfl
    obtain ⟨o, es, ep, ho, hd, _⟩ := hg
    rcases W with z | ⟨c', z, _⟩ <;> (rw [tab z] at ho; cases ho; cases hd)
  rcases W with z | ⟨c', z, y⟩
  · refine PySem.W.kla_makeFunction hcl I.ok.glob hg hcode C (tab z) trivial rfl hgP hb fun c' ctv h' tk hx hge hlt hrec htb => ?_
    have fc : H c' = none := I.hok.fresh hge
    have nP : c' ≠ P := Ne.symm (ne_of_none z fc)
    let H' : Hp := upd (upd H P (.tbl #[rawInt pos.line, rawInt pos.col, .ref c'])) c' (CodeO c' (X.env.qual ++ "<lambda>"))
    have hP' : H' P = some (.tbl #[rawInt pos.line, rawInt pos.col, .ref c']) := by show upd _ _ _ _ = _; rw [upd_ne (Ne.symm nP), upd_same]
    have hc' : H' c' = some (CodeO c' (X.env.qual ++ "<lambda>")) := upd_same
    have gr : ∀ b o, H b = some o → b ≠ P → H' b = some o := fun b o e nb => by
      show upd _ _ _ _ = _
      rw [upd_ne (ne_of_none e fc), upd_ne nb]; exact e
    have I1 : Inv X pins σ H' { s with heap := h', toks := tk } := by
      refine I.step (g' := s.gens) (d' := s.drawn) (ch := []) (fun _ m => nomatch m) (fun b o _ _ _ e n => hx b o (Ne.symm (ne_of_none z n)) e) (fun b o _ _ _ e n => ⟨o.slots, hx b o (Ne.symm (ne_of_none z n)) e⟩) (fun b o _ e n => ?_) (fun b o _ e => ?_)
        (fun b xs e => gr b _ e fun k => by subst k; rw [z] at e; cases e) (fun b o u e => gr b _ e fun k => by subst k; rw [z] at e; cases e) (fun b ps e => ?_) (fun m hm => ?_) (fun b u e => ?_) I.bare
      · show upd _ _ _ _ = _
        rw [upd_ne (Nat.ne_of_lt (Nat.lt_of_lt_of_le (Heap.lt_size e) hge)), upd_ne (Ne.symm (ne_of_none z n))]; exact n
      · by_cases k : b = P
        · subst k; exact ⟨_, htb⟩
        · exact ⟨o, hx b o k e⟩
      · by_cases k : b = P
        · subst k
          rw [z] at e; cases e
          exact ⟨#[rawInt pos.line, rawInt pos.col, .ref c'], by rw [hP']; rfl⟩
        · exact ⟨#[], by rw [gr b _ e k]; simp⟩
      · exact hm.extBut hx fun k => by have := I.free; rw [k, z] at this; cases this
      · by_cases k1 : b = c'
        · subst k1
          rw [hc'] at e; cases e
          obtain ⟨_, o, _, _, e', ho, _⟩ := id hrec
          cases e'
          exact ⟨hrec, ⟨o, ho⟩, rec_stays⟩
        · by_cases k2 : b = P
          · subst k2
            rw [hP'] at e; cases e
            exact htb
          · have e' : H b = some u := by
              have e2 : upd (upd H P _) c' _ b = some u := e
              rwa [upd_ne k1, upd_ne k2] at e2
            refine (I.hok b u e').stay (fun d v hd' r => hx d v ?_ r) (fun d r => gr d _ r ?_) fun d xs r => gr d _ r ?_
            · rcases hd' with k | k
              · rw [k]; exact k2
              · rintro rfl; rw [z] at k; cases k
            · rintro rfl; rw [z] at r; cases r
            · rintro rfl; rw [z] at r; cases r
    have I2 : Inv X pins σ H' { s with heap := h'.push _, toks := tk } := I1.kept (t' := tk) (h' := h'.push (PySem.W.kla_obj "<lambda>" (X.env.qual ++ "<lambda>") params body scope [] ((X.mg "__name__").getD .none) c' ctv)) fun b u e => Heap.get?_push_of_some _ e
    refine h H' _ h'.objs.size c' ((X.mg "__name__").getD .none) ctv I2 (Heap.get?_push_size _ rfl) ?_ (.inr ⟨c', hP', hc'⟩) gr
    exact rec_stays h' _ hrec fun o e => Heap.get?_push_of_some _ e
  · refine PySem.W.kla_makeFunctionHit (cv := .ref c') hcl I.ok.glob hg hcode C (tab z) trivial ?_ hb fun ctv h' tk kk sz => ?_
    · simp [codeAmong, rawInt]
    · have I2 : Inv X pins σ H { s with heap := h'.push _, toks := tk } := I.kept (t' := tk) (h' := h'.push (PySem.W.kla_obj "<lambda>" (X.env.qual ++ "<lambda>") params body scope [] ((X.mg "__name__").getD .none) c' ctv)) fun b u e => Heap.get?_push_of_some _ (kk b u e)
      refine h H _ h'.objs.size c' ((X.mg "__name__").getD .none) ctv I2 (Heap.get?_push_size _ rfl) ?_ (.inr ⟨c', z, y⟩) fun b o e _ => e
      obtain ⟨hr, _, _⟩ := I.hok c' _ y
      exact rec_stays s.heap _ hr fun o e => Heap.get?_push_of_some _ (kk _ _ e)
end
structure LamSc (scope : Scope) (x : Str) : Prop where
  co : scope.isCoroutine = false
  gen : scope.isGenerator = false
  kind : scope.kind = .function
  cell : ∀ y ∈ scope.names, y.2 ≠ .cell
  loc : scope.names.lookup x = some .local
section
variable {P : Program} {w : World} {A : Around} {z : Shared}
theorem lam_fld {f c' : Addr} {nm q x fld k : Str} {params : Arguments} {p1 p2 : Pos} {scope : Scope} {pm ctv v : Value} (ho : z.heap.get? f = some (PySem.W.kla_obj nm q params (.Attribute (.Name x p1) fld p2) scope [] pm c' ctv)) (hc : z.heap.CodeRec (.ref c') q)
    (hroom : A.depth < recursionLimit) (hlim : z.heap.NoLimit) (hb : bindArgs (PySem.W.kla_fn nm q params (.Attribute (.Name x p1) fld p2) scope [] pm (.ref c') ctv) ⟨[v], []⟩ = pure [(x, v)]) (S : LamSc scope x) (hx : (x == ("__debug__" : Str)) = false)
    (hat : ∀ env : Env, attributeBase (.Name x p1) fld env (eval (.Name x p1) env) = eval (.Name x p1) env)
    (hget : ∀ (A' : Around) (E' : Value → Shared → Prop) (h : Heap) (tk : Nat), Kept z.heap h → wpAny (model P w) A' (getAttr v fld true) (fun u y => ∃ t tk', u = .str k t ∧ y = { z with heap := h, toks := tk' }) E' { z with heap := h, toks := tk }) :
    wpAny (model P w) A (call (.ref f) [v]) (KeyEnd z z.heap k) (fun _ _ => False) z := by
  refine wpAny_call (PySem.W.kla_callFunE hroom ho rfl S.co S.gen rfl hc ?_)
  rw [hb]
  refine wpAny_pure (wpAny_newFunctionEnv S.cell (fun y hy => by rw [List.mem_singleton.mp hy]; exact S.loc) (fun h1 hns hsb => ?_) S.kind)
  have kk : Kept z.heap h1 := fun b o e => (hsb.2 b (Nat.ne_of_lt (Heap.lt_size e))).trans (Heap.get?_push_of_some _ e)
  refine ⟨hlim.keeps kk, PySem.W.kla_codeExpr (attr_of (hat _) (wpAny_Name (wpAny_loadName_local S.kind S.loc hns (v := v) (by simp) ?_) hx))⟩
  refine thn (hget _ _ h1 _ kk) fun u y ⟨t, tk', eu, ey⟩ => ?_
  exact ⟨h1, tk', t, eu, ey, kk⟩
end
noncomputable def tMinKey (K : PySem.W.Frag) (P : Addr) (pos : Pos) (q fld : Str) (ta : TA) : TE := fun σ H Q => ta σ H fun vs H1 => ∃ (l : Addr) (xs : List V) (ks : List Str), vs = [.ref l] ∧ SqL K H1 l xs ∧ 0 < xs.length ∧ TabOk H1 P pos q ∧ ks.length = xs.length ∧
  (∀ (i : Nat) (v : V) (k : Str), xs[i]? = some v → ks[i]? = some k → ∃ a C dx fs, v = .ref a ∧ H1 a = some (.ins C dx fs) ∧ Cls K C ∧ NoAttr K C fld ∧ fs.lookup fld = some (.str k)) ∧
  ∀ (i : Nat) (v : V) (k : Str) (H2 : Hp), xs[i]? = some v → ks[i]? = some k → (∀ y ∈ ks, ¬ ltS y k) → TabOk H2 P pos q → GrownBut P H1 H2 → Q v H2
section
variable {X : Cx}
theorem pe_minKey {e : Expr} {ta : TA} {x fld q : Str} {params : Arguments} {p p1 p2 lpos kpos pos : Pos} {scope : Scope} {c P : Addr} (T : LamTxt X.K X.mg X.base c P) (hcode : X.env.code = .ref c) (hr : Room 2 X.A) (hcm : X.calm = true) (hg : Gl X "min") (hm : X.mg "min" = none) (ha : PA X [e] ta)
    (S : LamSc scope x) (hq : X.env.qual ++ "<lambda>" = q := by rfl) (hcl : closureFor scope X.env = pure [] := by rfl) (hdef : defaultsOf params X.env = ([], []) := by rfl)
    (hb : ∀ (pm cd ctv v : Value), bindArgs (PySem.W.kla_fn "<lambda>" q params (.Attribute (.Name x p1) fld p2) scope [] pm cd ctv) ⟨[v], []⟩ = pure [(x, v)] := by intros; rfl) (hx : (x == ("__debug__" : Str)) = false := by decide)
    (hat : ∀ env : Env, attributeBase (.Name x p1) fld env (eval (.Name x p1) env) = eval (.Name x p1) env := by intros; rfl)
    (he : backTo pos (starEach [e] X.env) = (false, eval e X.env) :: backTo pos (starEach [] X.env) := by rfl) (hpl : (backTo pos (starEach [e] X.env)).any (·.1) = false := by rfl) :
    PE X (.Call (.Name "min" p) [e] [⟨some "key", .Lambda params (.Attribute (.Name x p1) fld p2) scope lpos, kpos⟩] pos) (tMinKey X.K P lpos q fld ta) := by
  intro pins s σ H Q I h
  refine wpAny_Call_Name_kw (ld_blt I hg hm PyProof.Rows.boot_min ?_)
  refine PyProof.Rows.callWith_kw (thn (ha pos pins s σ H _ I h) fun us s1 ⟨vs, H1, I1, r1, q1⟩ => ?_) he hpl rfl rfl
  obtain ⟨l, xs, ks, rfl, hl, h0, W, hlen, hat1, fin⟩ := q1
  obtain ⟨u, rfl, ru⟩ := v1 r1
  cases (show u = Value.ref l from ru)
  refine PyProof.Rows.evalAll_cons (wpAny_bind (lam_made I1 T hcode hq hcl hdef W fun H2 s2 f c' pm ctv I2 ho hrec W2 gr => wpAny_bind (wpAny_standAt (wpAny_pure ?_))))
  refine PyProof.Rows.evalAll_nil ?_
  have hlP : SqL X.K H2 l xs := by
    rcases hl with (z | ⟨o, z⟩) | z
    · exact .inl (.inl (gr _ _ z (W.ne z (fun _ k => nomatch k))))
    · exact .inl (.inr ⟨o, gr _ _ z (W.ne z (fun _ k => nomatch k))⟩)
    · exact .inr z
  obtain ⟨its, rv, pl, _⟩ := I2.list hlP
  have il := rv.length
  refine min_key (vs := its) (fun i => ks.getD i Str.empty) (I2.ok.hd hcm) pl.isList (by omega) (fun i v hv h tk kk => ?_) fun i v h tk hv hbest kk => ?_
  · have hi : i < its.length := (List.getElem?_eq_some_iff.mp hv).1
    obtain ⟨y, hy⟩ : ∃ y, xs[i]? = some y := ⟨_, List.getElem?_eq_getElem (by omega)⟩
    obtain ⟨k, hk⟩ : ∃ k, ks[i]? = some k := ⟨_, List.getElem?_eq_getElem (by omega)⟩
    obtain ⟨u, hu, ry⟩ := rv.get hy
    rw [hv] at hu; cases hu
    obtain ⟨a, C, dx, fs, rfl, ea, cc, nn, lf⟩ := hat1 i y k hy hk
    cases (show v = Value.ref a from ry)
    have ek : ks.getD i Str.empty = k := by simp [hk]
    show wpAny _ _ _ (KeyEnd s2 h (ks.getD i Str.empty)) _ _
    rw [ek]
    have I3 : Inv X pins σ H2 { s2 with heap := h, toks := tk } := I2.kept (t' := tk) kk
    have ea2 : H2 a = some (.ins C dx fs) := gr _ _ ea (W.ne ea (fun _ k => nomatch k))
    refine lam_fld (z := { s2 with heap := h, toks := tk }) (kk _ _ ho) (rec_stays _ _ hrec fun o e => kk _ _ e) hr.in1.depth I3.nolimit (hb _ _ _ _) S hx hat fun A' E' h2 tk2 k2 => ?_
    have I4 : Inv X pins σ H2 { s2 with heap := h2, toks := tk2 } := I3.kept (t' := tk2) k2
    obtain ⟨mA, O, r, _, _, _⟩ := ins_get I4.hok ea2
    obtain ⟨w', hw, rw'⟩ := RelO.some_of (v := V.str k) (o := mA fld) (by rw [← lf]; exact r fld)
    obtain ⟨t, rfl⟩ := rw'
    exact get_map I4.kIn O (cc.get fld) cc.hd nn hw rfl ⟨t, _, rfl, rfl⟩
  · have hi : i < its.length := (List.getElem?_eq_some_iff.mp hv).1
    obtain ⟨y, hy⟩ : ∃ y, xs[i]? = some y := ⟨_, List.getElem?_eq_getElem (by omega)⟩
    obtain ⟨k, hk⟩ : ∃ k, ks[i]? = some k := ⟨_, List.getElem?_eq_getElem (by omega)⟩
    obtain ⟨u, hu, ry⟩ := rv.get hy
    rw [hv] at hu; cases hu
    have ek : ks.getD i Str.empty = k := by simp [hk]
    refine ⟨y, H2, I2.kept (t' := tk) kk, ry, fin i y k H2 hy hk (fun y' hy' => ?_) W2 gr⟩
    obtain ⟨j, hj, ej⟩ := List.getElem_of_mem hy'
    have := hbest j (by omega)
    rw [ek] at this
    have e2 : ks.getD j Str.empty = y' := by simp [List.getElem?_eq_getElem hj, ej]
    rw [e2] at this
    exact this
end
end L2
-- MOD Ex11
/-! The head of a law whose defs make one lambda: the table of its places is tracked from the beginning. -/
namespace L2
open PySem PySem.Spec PyProof.Rows
theorem blt_of {p : Program} {loose : List Str} {mean : ExcName → Option Value} {mg mb : Str → Option Value} {h : Heap} (T : PyProof.Rows.Top p loose mean mg mb h) : BltAt mg h := by
  obtain ⟨bm, ob, b1, b2, b3, b4, b5, b6⟩ := T.bmain
  refine ⟨bm, ob, b1, b2, fun q => ?_, b3, b4, b5, b6⟩
  obtain ⟨o, es, ep, e, hd, _⟩ := T.g
  rw [q, e] at b3; cases b3; rw [hd] at b6; cases b6
end L2
-- MOD Ex12
/-! enumerate, dicts walked (frozen from then on), their values, list(d), min and sorted of texts. -/
namespace L2
open PySem PySem.Spec PyProof.Rows
noncomputable def Ite (K : PySem.W.Frag) (a : Addr) : It :=
  ⟨fun i H => ∃ xs x, SqL K H a xs ∧ xs[i]? = some x,
   fun i H v H' => ∃ p x, v = .ref p ∧ H p = none ∧ H' = upd H p (.tup [.int (i : Nat), x]) ∧ ∀ xs, SqL K H a xs → xs[i]? = some x,
   fun i H => ∃ xs, SqL K H a xs ∧ xs.length ≤ i⟩
theorem turn_enum {P : Program} {w : World} {K : PySem.W.Frag} {es : List Expr} {x1 : _} {pos : Pos} {l e it : Addr} (D : e ≠ it) :
    Turn P w K (.Tuple es x1 pos) (Ite K l) [e, it] e (fun i h => (∃ old, IsEnum h e it ((i : Nat) : Int) old) ∧ h.IsListIter it l i) where
  mem := by simp
  obj := fun i h st b hb => by
    obtain ⟨⟨old, h1⟩, ⟨o4, h4, _, d4⟩⟩ := st
    simp only [List.mem_cons, List.not_mem_nil, or_false] at hb
    rcases hb with rfl | rfl
    · exact ⟨_, h1, fun v q => by cases (show Data.fields _ = Data.cell v from q)⟩
    · exact ⟨_, h4, fun v q => by rw [d4] at q; cases q⟩
  keep := fun i h h' st k => by
    obtain ⟨⟨old, h1⟩, h4⟩ := st
    exact ⟨⟨old, k e (by simp) _ h1⟩, h4.at fun o q => k it (by simp) o q⟩
  item := by
    intro X hP hw hK hc i pins s σ H E I hf st hg
    subst hP hw hK
    obtain ⟨⟨old, h1⟩, h4⟩ := st
    obtain ⟨xs, x, qx, ex⟩ := hg
    obtain ⟨its, rx, px, _⟩ := I.list qx
    obtain ⟨u, hu, ru⟩ := rx.get ex
    refine wpAny_pyNext_enum_item h1 h4 px.isList (x := u) (by simpa using hu) D fun h' a1 a2 a3 a4 a5 => ?_
    refine ⟨_, rfl, wpAny_letOwnedTupleGo_enum a1 fun h2' b1 sb => ?_⟩
    have ne : s.heap.objs.size ≠ e := fun q => by have := Heap.lt_size h1; rw [← q] at this; exact Nat.lt_irrefl _ this
    have J : Inv X pins σ H { s with heap := h2', toks := s.toks + 1 } := I.turns (t' := s.toks + 1) (ch := [e, it]) (fun b o hb q => by
      simp only [List.mem_cons, List.not_mem_nil, or_false, not_or] at hb
      exact (sb.2 b hb.1).trans (a5 b o hb.1 hb.2 q)) hf
    have gT : h2'.get? s.heap.objs.size = some { cls := .type "tuple", data := .seq #[.int (i : Nat) s.toks, u] } := (sb.2 _ ne).trans a3
    have fT : H s.heap.objs.size = none := I.hok.fresh (Nat.le_refl _)
    have J2 : Inv X pins σ (upd H s.heap.objs.size (.tup [.int (i : Nat), x])) { s with heap := h2', toks := s.toks + 1 } := J.adopt fT I.sz (Nat.ne_of_gt I.lt) (fun n c q => by
        obtain ⟨w', q⟩ := I.cell n c q
        exact Nat.ne_of_lt q.lt) (fun p hp => Nat.ne_of_lt (Heap.lt_size (I.pin p hp).1)) ⟨by show 2 ≤ sizeLine; decide, [.int (i : Nat) s.toks, u], .cons ⟨_, rfl⟩ (.cons ru .nil), ⟨_, gT, rfl, _, rfl⟩⟩
    refine ⟨.ref s.heap.objs.size, _, J2, rfl, ⟨_, x, rfl, fT, rfl, fun zs hz => by rw [I.list_inj hz qx]; exact ex⟩, ⟨⟨u, ?_⟩, a2.at fun o q => (sb.2 _ (Ne.symm D)).trans q⟩, fun b hb => ?_⟩
    · have : (((i + 1 : Nat)) : Int) = (i : Int) + 1 := by push_cast; rfl
      rw [this]
      exact b1
    · have hb' := (hf b hb).1
      have : b ≠ s.heap.objs.size := by
        rintro rfl
        obtain ⟨o, q⟩ : ∃ o, s.heap.get? s.heap.objs.size = some o := by
          simp only [List.mem_cons, List.not_mem_nil, or_false] at hb
          rcases hb with q | q <;> rw [q]
          · exact ⟨_, h1⟩
          · obtain ⟨o, q, _⟩ := h4; exact ⟨o, q⟩
        exact Nat.lt_irrefl _ (Heap.lt_size q)
      rw [upd_ne this]
      exact hb'
  done := by
    intro X hP hw hK hc i pins s σ H E I hf st hg
    subst hP hw hK
    obtain ⟨⟨old, h1⟩, h4⟩ := st
    obtain ⟨xs, qx, hend⟩ := hg
    obtain ⟨its, rx, px, _⟩ := I.list qx
    have e1 := rx.length
    refine wpAny_pyNext_enum_end (I.ok.hd hc) h1 h4 px.isList (by simp; omega) fun h' kk => ⟨rfl, I.turns (t' := s.toks) (ch := [e, it]) (fun b o hb q => ?_) hf⟩
    simp only [List.mem_cons, List.not_mem_nil, or_false, not_or] at hb
    exact kk b o hb.2 q
  self := fun _ _ _ _ _ st h => wpAny_pyIter_enum st.1.choose_spec h
noncomputable def iEnum (K : PySem.W.Frag) (ta : TA) : TI := fun σ H R => ta σ H fun vs H1 => ∃ a, vs = [.ref a] ∧ (∃ xs, SqL K H1 a xs) ∧ R (Ite K a) H1
section
variable {X : Cx}
theorem pi_enum {es : List Expr} {x1 : _} {tp : Pos} {e1 : Expr} {ta : TA} {p pos : Pos} (hg : Gl X "enumerate") (hm : X.mg "enumerate" = none) (ha : PA X [e1] ta) (hs : starEach [e1] X.env = [(false, eval e1 X.env)] := by rfl) :
    PI X (.Tuple es x1 tp) (.Call (.Name "enumerate" p) [e1] [] pos) (iEnum X.K ta) := by
  intro pins s σ H R I h
  refine Call_ (ld_blt I hg hm boot_enumerate (PyProof.Rows.callWith_type1 (thn (ha pos pins s σ H _ I h) fun us s1 ⟨vs, H1, I1, r1, q1⟩ => ?_) hs rfl))
  obtain ⟨a, rfl, ⟨xs, qx⟩, q⟩ := q1
  obtain ⟨u, rfl, ru⟩ := v1 r1
  cases (show u = Value.ref a from ru)
  obtain ⟨its, rx, px, _⟩ := I1.list qx
  refine call_enumerate_list px.isList fun h' a1 a2 a3 a4 => wpAny_pyIter_enum a1 ?_
  have I2 : Inv X pins σ H1 { s1 with heap := h' } := I1.kept (t' := s1.toks) a4
  refine ⟨s1.heap.objs.size + 1, [s1.heap.objs.size + 1, s1.heap.objs.size], _, _, H1, rfl, I2, turn_enum (Nat.succ_ne_self _), ⟨⟨_, a1⟩, a2⟩, fun c hc => ?_, q⟩
  have hc' : s1.heap.objs.size ≤ c := by
    simp only [List.mem_cons, List.not_mem_nil, or_false] at hc
    rcases hc with q | q
    · rw [q]; exact Nat.le_succ _
    · rw [q]; exact Nat.le_refl _
  exact I1.fpOk hc' (I1.hok.fresh hc')
end
/-! ### a dict that is walked: from then on it is known to its object -/
noncomputable def Froze (H : Hp) (d : Addr) (kvs : List (Key × V)) (H' : Hp) : Prop := ∃ o, H' = upd H d (.frz o (.dK kvs))
theorem Froze.at {H H' : Hp} {d : Addr} {kvs : List (Key × V)} (z : Froze H d kvs H') : Rd H' d (.dK kvs) := by
  obtain ⟨o, rfl⟩ := z
  exact .inr ⟨o, upd_same⟩
theorem Froze.ne {H H' : Hp} {d : Addr} {kvs : List (Key × V)} (z : Froze H d kvs H') {b : Addr} (h : b ≠ d) : H' b = H b := by
  obtain ⟨o, rfl⟩ := z
  exact upd_ne h
section
variable {X : Cx} {pins : List (Addr × Obj)} {σ : St} {H : Hp} {s : Shared} {d : Addr} {kvs : List (Key × V)}
theorem upd_id {H : Hp} {a : Addr} {o : HO} (h : H a = some o) : upd H a o = H := by
  funext b
  by_cases e : b = a
  · subst e; rw [upd_same, h]
  · rw [upd_ne e]
theorem Inv.freeze (I : Inv X pins σ H s) (r : Rd H d (.dK kvs)) : ∃ o es ep, o.data = .dict es ep ∧ s.heap.get? d = some o ∧ Inv X pins σ (upd H d (.frz o (.dK kvs))) s := by
  rcases r with r | ⟨o, r⟩
  · have ok := I.hok d _ r
    obtain ⟨_, _, _, _, o, es, ep, e, ex, dd, _⟩ := id ok
    refine ⟨o, es, ep, dd, e, ?_⟩
    have tup : ∀ b xs, H b = some (.tup xs) → b ≠ d := fun b xs q z => by subst z; rw [r] at q; cases q
    refine I.step (h' := s.heap) (g' := s.gens) (d' := s.drawn) (t' := s.toks) (ch := []) (fun _ m => nomatch m) (fun b o _ _ _ e _ => e) (fun b o _ _ _ e _ => ⟨o.slots, e⟩) (fun b o _ q n => ?_) (fun b o _ e => ⟨o, e⟩)
      (fun b xs q => ?_) (fun b o u q => ?_) (fun b ps q => ⟨#[], ?_⟩) (fun m h => h) (fun b u q => ?_) I.bare
    · rw [upd_ne (Ne.symm (ne_of_none r n))]; exact n
    · rw [upd_ne (tup b xs q)]; exact q
    · rw [upd_ne (fun z => by subst z; rw [r] at q; cases q)]; exact q
    · rw [upd_ne (fun z => by subst z; rw [r] at q; cases q), q]; simp
    · by_cases hb : b = d
      · subst hb
        rw [upd_same] at q
        cases q
        exact ⟨e, ok⟩
      · rw [upd_ne hb] at q
        exact (I.hok b u q).stay (fun c v _ q => q) (fun c q => by rw [upd_ne (fun z => by subst z; rw [r] at q; cases q)]; exact q) fun c xs q => by rw [upd_ne (tup c xs q)]; exact q
  · obtain ⟨e, _, _, _, _, o', es, ep, e', ex, dd, _⟩ := I.hok d _ r
    rw [e] at e'; cases e'
    exact ⟨o, es, ep, dd, e, by rw [upd_id r]; exact I⟩
theorem Inv.dictAt {o : Obj} {es : Array DictEntry} {ep : Nat} (I : Inv X pins σ H s) (e : H d = some (.frz o (.dK kvs))) (hd : o.data = .dict es ep) : ∃ vs, KV kvs vs ∧ s.heap.DictAt (mixKind X.prog X.w) d vs ep ∧ (d == sysModules) = false := by
  obtain ⟨g, _, lo, vs, kv, o', es', ep', g', ex, hd', r⟩ := I.hok d _ e
  rw [g] at g'; cases g'
  rw [hd] at hd'; cases hd'
  exact ⟨vs, kv, ⟨o, es, g, ex, hd, r⟩, lo⟩
end
theorem KV.get {κ : Type} : ∀ {kvs : List (κ × V)} {vs : List (κ × Value)} {i : Nat} {k : κ} {x : V}, KV kvs vs → kvs[i]? = some (k, x) → ∃ u, vs[i]? = some (k, u) ∧ RelV x u
  | _, _, _, _, _, .nil, e => by simp at e
  | _, _, 0, k, x, .cons (b := b) r _, e => by
    simp at e
    obtain ⟨k', u⟩ := b
    subst e
    obtain ⟨e1, e2⟩ := r
    exact ⟨u, by simp at e1; simp [e1], e2⟩
  | _, _, i + 1, k, x, .cons _ t, e => by
    obtain ⟨u, h1, h2⟩ := KV.get (i := i) (k := k) (x := x) t (by simpa using e)
    exact ⟨u, by simpa using h1, h2⟩
theorem KV.len {κ : Type} {kvs : List (κ × V)} {vs : List (κ × Value)} (h : KV kvs vs) : kvs.length = vs.length := Paired.length h
theorem key_rel {k : Key} {v : Value} (h : keyIs k v = true) : RelV (kV k) v := by
  rcases keyIs_shape h with ⟨i, t, rfl, rfl⟩ | ⟨x, t, rfl, rfl⟩
  · exact ⟨t, rfl⟩
  · exact ⟨t, rfl⟩
noncomputable def Itk (d : Addr) (kvs : List (Key × V)) (o : Obj) : It :=
  ⟨fun i H => H d = some (.frz o (.dK kvs)) ∧ i < kvs.length, fun i H v H' => H' = H ∧ ∃ k x, kvs[i]? = some (k, x) ∧ v = kV k, fun i H => H d = some (.frz o (.dK kvs)) ∧ kvs.length ≤ i⟩
noncomputable def Itv (d : Addr) (kvs : List (Key × V)) (o : Obj) : It :=
  ⟨fun i H => H d = some (.frz o (.dK kvs)) ∧ i < kvs.length, fun i H v H' => H' = H ∧ ∃ k x, kvs[i]? = some (k, x) ∧ v = x, fun i H => H d = some (.frz o (.dK kvs)) ∧ kvs.length ≤ i⟩
theorem turn_keys {P : Program} {w : World} {K : PySem.W.Frag} {tg : Expr} {d it : Addr} {kvs : List (Key × V)} {o : Obj} {es : Array DictEntry} {ep : Nat} (hd : o.data = .dict es ep) :
    Turn P w K tg (Itk d kvs o) [it] it (fun i h => h.IsKeyIter it d i kvs.length ep) where
  mem := by simp
  obj := fun i h st b hb => by
    have e : b = it := by simpa using hb
    subst e
    obtain ⟨o, e, c, d⟩ := st
    exact ⟨o, e, fun v z => by rw [d] at z; cases z⟩
  keep := fun i h h' st k => st.at fun o e => k it (by simp) o e
  item := by
    intro X hP hw hK hc i pins s σ H E I hf st hg
    subst hP hw hK
    obtain ⟨ho, hi⟩ := hg
    obtain ⟨vs, kv, da, lo⟩ := I.dictAt ho hd
    obtain ⟨⟨k, x⟩, hk⟩ : ∃ p, kvs[i]? = some p := ⟨_, List.getElem?_eq_getElem hi⟩
    obtain ⟨u, hu, ru⟩ := kv.get hk
    obtain ⟨f0, f1, f2, f3, f4, f5⟩ := hf it (by simp)
    have st0 : s.heap.IsKeyIter it d i kvs.length ep := st
    rw [kv.len] at st0
    refine wpAny_pyNext_dict_item st0 da hu fun key h' hkey st' sb => ?_
    have I1 : Inv X pins σ H { s with heap := h' } := I.turned (t' := s.toks) (fun b o hb e => (sb.2 b hb).trans e) f0 f1 f3 f4 f5
    obtain ⟨o2, e, c, d2⟩ := id st'
    exact ⟨key, rfl, go_of (s := { s with heap := h' }) e c d2 (by decide) ⟨kV k, H, I1, key_rel hkey, ⟨rfl, k, x, hk, rfl⟩, by rw [kv.len]; exact st', fun b hb => (hf b hb).1⟩⟩
  done := by
    intro X hP hw hK hc i pins s σ H E I hf st hg
    subst hP hw hK
    obtain ⟨ho, hi⟩ := hg
    obtain ⟨vs, kv, da, lo⟩ := I.dictAt ho hd
    obtain ⟨f0, f1, f2, f3, f4, f5⟩ := hf it (by simp)
    have st0 : s.heap.IsKeyIter it d i kvs.length ep := st
    rw [kv.len] at st0
    exact wpAny_pyNext_dict_end (I.ok.hd hc) st0 da (by have := kv.len; simp; omega) fun h' eb => ⟨rfl, I.turned (t' := s.toks) (fun b o hb e => eb b o hb e) f0 f1 f3 f4 f5⟩
  self := fun _ _ _ _ _ st h => wpAny_pyIter_keyiter st h
theorem turn_vals {P : Program} {w : World} {K : PySem.W.Frag} {tg : Expr} {d it : Addr} {kvs : List (Key × V)} {o : Obj} {es : Array DictEntry} {ep : Nat} (hd : o.data = .dict es ep) :
    Turn P w K tg (Itv d kvs o) [it] it (fun i h => h.IsValIter it d i kvs.length ep) where
  mem := by simp
  obj := fun i h st b hb => by
    have e : b = it := by simpa using hb
    subst e
    obtain ⟨o, e, c, d⟩ := st
    exact ⟨o, e, fun v z => by rw [d] at z; cases z⟩
  keep := fun i h h' st k => st.at fun o e => k it (by simp) o e
  item := by
    intro X hP hw hK hc i pins s σ H E I hf st hg
    subst hP hw hK
    obtain ⟨ho, hi⟩ := hg
    obtain ⟨vs, kv, da, lo⟩ := I.dictAt ho hd
    obtain ⟨⟨k, x⟩, hk⟩ : ∃ p, kvs[i]? = some p := ⟨_, List.getElem?_eq_getElem hi⟩
    obtain ⟨u, hu, ru⟩ := kv.get hk
    obtain ⟨f0, f1, f2, f3, f4, f5⟩ := hf it (by simp)
    have st0 : s.heap.IsValIter it d i kvs.length ep := st
    rw [kv.len] at st0
    refine wpAny_pyNext_values_item st0 da hu fun h' st' sb => ?_
    have I1 : Inv X pins σ H { s with heap := h' } := I.turned (t' := s.toks) (fun b o hb e => (sb.2 b hb).trans e) f0 f1 f3 f4 f5
    obtain ⟨o2, e, c, d2⟩ := id st'
    exact ⟨u, rfl, go_of (s := { s with heap := h' }) e c d2 (by decide) ⟨x, H, I1, ru, ⟨rfl, k, x, hk, rfl⟩, by rw [kv.len]; exact st', fun b hb => (hf b hb).1⟩⟩
  done := by
    intro X hP hw hK hc i pins s σ H E I hf st hg
    subst hP hw hK
    obtain ⟨ho, hi⟩ := hg
    obtain ⟨vs, kv, da, lo⟩ := I.dictAt ho hd
    obtain ⟨f0, f1, f2, f3, f4, f5⟩ := hf it (by simp)
    have st0 : s.heap.IsValIter it d i kvs.length ep := st
    rw [kv.len] at st0
    exact wpAny_pyNext_values_end (I.ok.hd hc) st0 da (by have := kv.len; simp; omega) fun h' eb => ⟨rfl, I.turned (t' := s.toks) (fun b o hb e => eb b o hb e) f0 f1 f3 f4 f5⟩
  self := fun _ _ _ _ _ st h => wpAny_pyIter_valiter st h
noncomputable def ViewO (v d : Addr) : HO := .ext fun h => h.IsValuesView v d
noncomputable def iView (tl : TE) : TI := fun σ H R => tl σ H fun x H1 => ∃ v d kvs, x = .ref v ∧ H1 v = some (ViewO v d) ∧ Rd H1 d (.dK kvs) ∧ ∀ o, R (Itv d kvs o) (upd H1 d (.frz o (.dK kvs)))
section
variable {X : Cx} {tg : Expr}
theorem pi_view {l : Expr} {tl : TE} (hl : PE X l tl) : PI X tg l (iView tl) := by
  intro pins s σ H R I h
  refine thn (hl pins s σ H _ I h) fun v s1 ⟨x, H1, I1, r1, q1⟩ => ?_
  obtain ⟨a, d, kvs, rfl, hv, rd, q⟩ := q1
  obtain rfl : v = Value.ref a := r1
  obtain ⟨o, es, ep, hd, g, J⟩ := I1.freeze rd
  obtain ⟨vs, kv, da, lo⟩ := J.dictAt upd_same hd
  obtain ⟨vw, _, _⟩ := I1.hok a _ hv
  refine wpAny_pyIter_values (show s1.heap.IsValuesView a d from vw) da ?_
  have J2 := J.kept (t' := s1.toks) (h' := s1.heap.push { cls := .type "dict_valueiterator", data := .fields #[.ref d, .int 0 0, .int vs.length 0, .int ep 0] }) fun b u e => Heap.get?_push_of_some _ e
  refine ⟨s1.heap.objs.size, [s1.heap.objs.size], _, _, _, rfl, J2, turn_vals hd, ⟨_, Heap.get?_push_size _ rfl, rfl, by rw [kv.len]; rfl⟩, fun c hc => ?_, q o⟩
  have : c = s1.heap.objs.size := by simpa using hc
  subst this
  exact J.fpOk (Nat.le_refl _) (J.hok.fresh (Nat.le_refl _))
noncomputable def tValues (td : TE) : TE := fun σ H Q => td σ H fun x H1 => ∃ d kvs, x = .ref d ∧ Rd H1 d (.dK kvs) ∧ ∀ v, H1 v = none → Q (.ref v) (upd H1 v (ViewO v d))
theorem pe_values {o : Expr} {td : TE} {apos cpos : Pos} (ho : PE X o td) (hbase : attributeBase o "values" X.env (eval o X.env) = eval o X.env := by rfl) (hline : (apos.endLine == cpos.line) = true := by rfl) :
    PE X (.Call (.Attribute o "values" apos) [] [] cpos) (tValues td) := by
  intro pins s σ H Q I h
  refine wpAny_Call_method0_late hbase hline (thn (ho pins s σ H _ I h) fun v s1 ⟨x, H1, I1, r1, d, kvs, ex, rd, q1⟩ => ?_)
  subst ex
  obtain rfl : v = Value.ref d := r1
  obtain ⟨t1, t2, lo⟩ := isD_at I1 (.inl ⟨kvs, rd⟩)
  obtain ⟨_, _, vs, kv, dd⟩ := dk_rd I1.hok rd
  refine ⟨"dict", "dict.values", PySem.F.plainAttrs_dict, PySem.F.slot_dict_values, PySem.F.type_dict_values, t1, t2, Calls.callWith_builtin rfl (PySem.evalArgs_none ?_)⟩
  refine call_meetsIn PySem.F.slot_dict_values t1 PySem.F.entry_dict_values (PySem.F.args_dict_values_1 _) (meets_dict_values (mixKind X.prog X.w) d lo) ⟨⟨vs, dd⟩, ?_⟩
  have fr : H1 s1.heap.objs.size = none := I1.hok.fresh (Nat.le_refl _)
  refine ⟨.ref s1.heap.objs.size, _, I1.laid (t' := s1.toks) (a := s1.heap.objs.size) (o := ViewO s1.heap.objs.size d) (fun b u e => Heap.get?_push_of_some _ e) (Nat.le_refl _) ⟨⟨_, Heap.get?_push_size _ rfl, rfl, rfl⟩, ⟨_, Heap.get?_push_size _ rfl⟩, fun h1 h2 ⟨o', e, r⟩ k => ⟨o', k _ e, r⟩⟩, rfl, q1 _ fr⟩
theorem ltCps_iff : ∀ (a b : List Nat), ltCps a b = true ↔ a < b
  | [], [] => by simp [ltCps]
  | [], _ :: _ => by simp [ltCps]
  | _ :: _, [] => by simp [ltCps]
  | a :: r, b :: t => by
    rw [List.cons_lt_cons_iff]
    simp only [ltCps, Bool.or_eq_true, Bool.and_eq_true, decide_eq_true_eq, beq_iff_eq, ltCps_iff r t]
theorem leS_trans {a b c : Str} (x : ¬ ltS b a) (y : ¬ ltS c b) : ¬ ltS c a := by
  have h1 : a.cps.toList ≤ b.cps.toList := x
  have h2 : b.cps.toList ≤ c.cps.toList := y
  exact List.le_trans h1 h2
theorem rising_pw : ∀ (l : List Str) (a : Str), risingS a l = true → (a :: l).Pairwise (fun x y => ¬ ltS y x)
  | [], a, _ => by simp
  | b :: r, a, h => by
    have h' : (!ltCps b.cps.toList a.cps.toList && risingS b r) = true := h
    simp only [Bool.and_eq_true, Bool.not_eq_true'] at h'
    have ih := rising_pw r b h'.2
    have hab : ¬ ltS b a := fun z => by
      have := (ltCps_iff _ _).mpr z
      rw [h'.1] at this
      cases this
    refine List.pairwise_cons.mpr ⟨fun y hy => ?_, ih⟩
    rcases List.mem_cons.mp hy with rfl | hy
    · exact hab
    · exact leS_trans hab ((List.pairwise_cons.mp ih).1 y hy)
theorem sorted_pw : ∀ (l : List Str), sortedS l = true → l.Pairwise (fun x y => ¬ ltS y x)
  | [], _ => .nil
  | a :: r, h => rising_pw r a h
theorem strs_are : ∀ {ks : List Str} {us : List Value}, Vals (ks.map V.str) us → StrsAre us ks
  | [], _, .nil => .nil
  | k :: r, _, .cons a t => by
    obtain ⟨tk, rfl⟩ := a
    exact .cons k tk (strs_are t)
theorem vals_strs : ∀ {ks : List Str} {us : List Value}, StrsAre us ks → Vals (ks.map V.str) us
  | _, _, .nil => .nil
  | _, _, .cons x t r => .cons ⟨t, rfl⟩ (vals_strs r)
theorem call_sorted_strs {K : PySem.W.Frag} (hK : X.K = K) : CallR X (.builtin "sorted") (fun vs H Q => ∃ (l : Addr) (ks : List Str), vs = [.ref l] ∧ SqL K H l (ks.map V.str) ∧ ks.length < 64 ∧
    ∀ p (ks' : List Str), H p = none → ks'.Perm ks → ks'.Pairwise (fun a b => ¬ ltS b a) → Q (.ref p) (upd H p (.lst (ks'.map V.str)))) := by
  subst hK
  intro pins s σ H vs us Q I rv h
  obtain ⟨l, ks, rfl, hl, h64, q⟩ := h
  obtain ⟨u, rfl, ru⟩ := v1 rv
  cases (show u = Value.ref l from ru)
  obtain ⟨its, rx, pl, hz⟩ := I.list hl
  have sa := strs_are rx
  have il := rx.length
  simp only [List.length_map] at il hz
  refine sorted_strs pl.isList sa (by omega) fun out ss' a1 a2 a3 => ?_
  obtain ⟨e, he⟩ := sortedAll_at s.heap its out
  have fr : H (s.heap.objs.size + 1) = none := I.hok.fresh (Nat.le_succ _)
  have ln : ss'.length = ks.length := a2.length_eq
  refine ⟨.ref (s.heap.objs.size + 1), _, I.laid (t' := s.toks) (a := s.heap.objs.size + 1) (o := .lst (ss'.map V.str)) (fun _ _ => sortedAll_old) (Nat.le_succ _) ⟨by rw [List.length_map]; omega, out.toList, e, vals_strs a1, by simpa [seqObj] using he⟩, rfl, q _ ss' fr a2 ?_⟩
  exact sorted_pw ss' a3
end
end L2
-- MOD Ex13
/-! dict(list of pairs). -/
namespace L2
open PySem PySem.Spec PyProof.Rows
section
variable {P : Program} {w : World} {A : Around} {E : Value → Shared → Prop}
theorem nodup_at {α : Type} {l : List α} (h : l.Nodup) {i j : Nat} {x : α} (a : l[i]? = some x) (b : l[j]? = some x) : i = j := by
  obtain ⟨h1, e1⟩ := List.getElem?_eq_some_iff.mp a
  obtain ⟨h2, e2⟩ := List.getElem?_eq_some_iff.mp b
  exact (List.getElem_inj h).mp (e1.trans e2.symm)
end
section
variable {X : Cx}
end
end L2
-- MOD Ex14
namespace L2
open PySem PySem.Spec PyProof.Rows
section
variable {X : Cx}
theorem call_isinstK {K : PySem.W.Frag} (hK : X.K = K) : CallR X (.builtin "isinstance") (fun xs H Q => ∃ x c t cv b, xs = [x, c] ∧ TyOf K H x t ∧ RelV c cv ∧ PySem.W.kitOne K t cv = some b ∧ Q (.bl b) H) := by
  subst hK
  exact call_isinst
end
structure FunL (K : PySem.W.Frag) (x qual : Str) (st : Stmt) (f : Addr) (fd : FuncData) (c : Addr) : Prop where
  ex : ∃ (oc : Value) (od : Option Addr) (kV doc pm : Value) (an : Option Addr) (ct : Value) (osl : Array (Option Value)),
    fd = PySem.W.fnOf x qual (defArgs st) (defBody st) (defScope st) .none kV doc pm an (.ref c) ct ∧ K.lookup f = some ⟨oc, od, .func fd, osl⟩ ∧ PySem.W.codeIn K (.ref c) qual = true
  kp : PySem.W.keepIn K (.ref f) = true
theorem FunL.fn {K : PySem.W.Frag} {x qual : Str} {st : Stmt} {f c : Addr} {fd : FuncData} (F : FunL K x qual st f fd c) : Fun K x qual st f fd := by
  obtain ⟨oc, od, kV, doc, pm, an, ct, osl, e, lk, hcd⟩ := F.ex
  exact ⟨⟨oc, od, kV, doc, pm, an, .ref c, ct, osl, e, lk, hcd⟩, F.kp⟩
theorem FunL.okC {P : Program} {w : World} {K : PySem.W.Frag} {mg : Str → Option Value} {base : Heap} {CX : CXT} {x qual : Str} {st : Stmt} {f c : Addr} {fd : FuncData} {N ps : List Str} {k : Nat} {sp : Sp} (F : FunL K x qual st f fd c) (S : FnScope N ps (defScope st)) (len : ∀ vs H Q E, sp vs H Q E → vs.length = ps.length)
    (hbody : ∀ (A : Around) (outer : List Env) (s : Shared) (H : Hp) (vs : List V) (Q : VK) (E : XK), Room k (A.deeper (envOfC qual (defScope st) s.heap.objs.size f (.ref c))) → sp vs H Q E →
      ∃ t, PSs (cxOf CX P w K mg base N qual (defScope st) f (.ref c) A outer s H E).nox (defBody st) t ∧ t { nx := fun _ H' => Q .non H', rt := Q } (start N vs) H) : FnOk P w K mg base CX (k + 1) f fd ps sp := by
  obtain ⟨oc, od, kV, doc, pm, an, ct, osl, rfl, lk, hcd⟩ := F.ex
  refine fn_of lk hcd S len fun A outer s H vs Q E hr hsp => ?_
  obtain ⟨t, h, q⟩ := hbody A outer s H vs Q E hr hsp
  exact ⟨t, h.nox, q⟩
theorem comp_vals {d : Addr} {kvs : List (Key × V)} {o : Obj} {k : Nat} {σ : St} {H : Hp} {g : TG} {tt : TT} {te : TE} {Q : VK} (Pv : Nat → List V → Hp → Prop) (h0 : Pv 0 [] H) (hl : ∀ i ys H, Pv i ys H → H d = some (.frz o (.dK kvs)))
    (hz : ∀ i ys H, i ≤ kvs.length → Pv i ys H → ys.length ≤ sizeLine)
    (hs : ∀ i k' x ys H, kvs[i]? = some (k', x) → Pv i ys H → ∀ N : List V → Hp → Prop, (∀ ys H, Pv (i + 1) ys H → N ys H) → g x (σ ++ List.replicate k none) H fun σ2 H2 => tt σ2 H2 fun b H3 => if b = true then te σ2 H3 fun y H4 => N (ys ++ [y]) H4 else N ys H3)
    (hd : ∀ ys H, Pv kvs.length ys H → ∀ p, H p = none → Q (.ref p) (upd H p (.lst ys))) : CompGoal (Itv d kvs o) k σ H g tt te Q := by
  refine comp_by (J := Itv d kvs o) (n := kvs.length) Pv h0 (fun i ys H lt p => ⟨hl i ys H p, lt⟩) (fun ys H p => ⟨hl _ ys H p, Nat.le_refl _⟩) hz ?_ hd
  rintro i ys H x H' lt p ⟨rfl, k', x', e, rfl⟩ N hN
  exact hs i k' _ ys _ e p N hN
end L2
-- MOD Ex15
/-! Texts: split, startswith, steps of two, f-texts, int(text). -/
namespace L2
open PySem PySem.Spec PyProof.Rows
/-! ### a text put together of words without the sign parts into them again -/
/-! ### each second one -/
end L2
-- MOD Ex16
/-! The rules over texts. -/
namespace L2
open PySem PySem.Spec PyProof.Rows
section
variable {X : Cx}
/-! ### f-texts -/
end
end L2
-- MOD Ex17
/-! A dict whose keys are texts and None. -/
namespace L2
open PySem PySem.Spec PyProof.Rows
noncomputable abbrev OKey := Option Str
section
variable {P : Program} {w : World} {H : Hp} {h : Heap} {a : Addr} {kvs : List (OKey × V)}
end
section
variable {X : Cx} {o i e value : Expr} {pos pos' tpos : Pos} {td ty tv tk : TE}
end
end L2
-- MOD Ex18
/-! Numbers as figures, words with points between. -/
namespace L2
open PySem PySem.Spec PyProof.Rows
end L2
-- MOD ExW
/-! The judgements as closed words of their own, and each rule over them. -/
namespace L2.W
open PySem PySem.Spec PyProof.Rows
@[irreducible] noncomputable def PE (X : Cx) (e : Expr) (t : TE) : Prop := L2.PE X e t
theorem ePE : @L2.PE = @PE := by unfold PE; rfl
@[irreducible] noncomputable def PT (X : Cx) (e : Expr) (t : TT) : Prop := L2.PT X e t
theorem ePT : @L2.PT = @PT := by unfold PT; rfl
@[irreducible] noncomputable def PW (X : Cx) (e : Expr) (t : TT) : Prop := L2.PW X e t
theorem ePW : @L2.PW = @PW := by unfold PW; rfl
@[irreducible] noncomputable def PA (X : Cx) (es : List Expr) (t : TA) : Prop := L2.PA X es t
theorem ePA : @L2.PA = @PA := by unfold PA; rfl
@[irreducible] noncomputable def PS (X : Cx) (st : Stmt) (t : TS) : Prop := L2.PS X st t
theorem ePS : @L2.PS = @PS := by unfold PS; rfl
@[irreducible] noncomputable def PSs (X : Cx) (st : List Stmt) (t : TS) : Prop := L2.PSs X st t
theorem ePSs : @L2.PSs = @PSs := by unfold PSs; rfl
@[irreducible] noncomputable def PG (X : Cx) (g : Expr) (t : TG) : Prop := L2.PG X g t
theorem ePG : @L2.PG = @PG := by unfold PG; rfl
@[irreducible] noncomputable def PGs (X : Cx) (ts : List Expr) (t : TGs) : Prop := L2.PGs X ts t
theorem ePGs : @L2.PGs = @PGs := by unfold PGs; rfl
@[irreducible] noncomputable def PI (X : Cx) (tg iter : Expr) (wi : TI) : Prop := L2.PI X tg iter wi
theorem ePI : @L2.PI = @PI := by unfold PI; rfl
@[irreducible] noncomputable def PFs (X : Cx) (ifs : List Expr) (t : TT) : Prop := L2.PFs X ifs t
theorem ePFs : @L2.PFs = @PFs := by unfold PFs; rfl
noncomputable def ps_if := by have h := @L2.ps_if; rw [ePS, ePSs, ePT] at h; exact @h
noncomputable def pe_fld := by have h := @L2.pe_fld; rw [ePE] at h; exact @h
noncomputable def pt_val := by have h := @L2.pt_val; rw [ePE, ePT] at h; exact @h
noncomputable def ps_asg := by have h := @L2.ps_asg; rw [ePE, ePS, ePG] at h; exact @h
noncomputable def pe_callTy := by have h := @L2.pe_callTy; rw [ePE, ePA] at h; exact @h
noncomputable def pe_callB := by have h := @L2.pe_callB; rw [ePE, ePA] at h; exact @h
noncomputable def ps_ret := by have h := @L2.ps_ret; rw [ePE, ePS] at h; exact @h
noncomputable def fn_of := by have h := @L2.fn_of; rw [ePSs] at h; exact @h
noncomputable def pe_make := by have h := @L2.pe_make; rw [ePE, ePA] at h; exact @h
noncomputable def pe_ix := by have h := @L2.pe_ix; rw [ePE] at h; exact @h
noncomputable def pe_un := by have h := @L2.pe_un; rw [ePE] at h; exact @h
noncomputable def pe_bm := by have h := @L2.pe_bm; rw [ePE, ePA] at h; exact @h
noncomputable def pw_and1 := by have h := @L2.pw_and1; rw [ePT, ePW] at h; exact @h
noncomputable def pe_and := by have h := @L2.pe_and; rw [ePE] at h; exact @h
noncomputable def pe_op := by have h := @L2.pe_op; rw [ePE] at h; exact @h
noncomputable def pv := by have h := @L2.pv; rw [ePE] at h; exact @h
noncomputable def ps_fld := by have h := @L2.ps_fld; rw [ePE, ePS] at h; exact @h
noncomputable def pss_one := by have h := @L2.pss_one; rw [ePS, ePSs] at h; exact @h
noncomputable def pe_bltn := by have h := @L2.pe_bltn; rw [ePE] at h; exact @h
noncomputable def pgs_nil := by have h := @L2.pgs_nil; rw [ePGs] at h; exact @h
noncomputable def pg_tup := by have h := @L2.pg_tup; rw [ePG, ePGs] at h; exact @h
noncomputable def pss_cons := by have h := @L2.pss_cons; rw [ePS, ePSs] at h; exact @h
noncomputable def bin := by have h := @L2.bin; rw [ePE] at h; exact @h
noncomputable def pc_notN := by have h := @L2.pc_notN; rw [ePE] at h; exact @h
noncomputable def pss_never := by have h := @L2.pss_never; rw [ePSs] at h; exact @h
noncomputable def pe_glob := by have h := @L2.pe_glob; rw [ePE] at h; exact @h
noncomputable def pgs_cons := by have h := @L2.pgs_cons; rw [ePG, ePGs] at h; exact @h
noncomputable def ps_while := by have h := @L2.ps_while; rw [ePS, ePSs, ePT] at h; exact @h
noncomputable def pe_var := by have h := @L2.pe_var; rw [ePE] at h; exact @h
noncomputable def pg_name := by have h := @L2.pg_name; rw [ePG] at h; exact @h
noncomputable def pi_range1 := by have h := @L2.pi_range1; rw [ePA, ePI] at h; exact @h
noncomputable def pt_truth := by have h := @L2.pt_truth; rw [ePE, ePT] at h; exact @h
noncomputable def ps_for := by have h := @L2.ps_for; rw [ePS, ePSs, ePG, ePI] at h; exact @h
noncomputable def pt_cmpR := by have h := @L2.pt_cmpR; rw [ePE, ePT] at h; exact @h
noncomputable def pe_call := by have h := @L2.pe_call; rw [ePE, ePA] at h; exact @h
noncomputable def pc_isN := by have h := @L2.pc_isN; rw [ePE] at h; exact @h
noncomputable def methcall_of := by have h := @L2.methcall_of; rw [ePE] at h; exact @h
noncomputable def pw_or1 := by have h := @L2.pw_or1; rw [ePT, ePW] at h; exact @h
noncomputable def pe_tup := by have h := @L2.pe_tup; rw [ePE, ePA] at h; exact @h
noncomputable def pe_one := by have h := @L2.pe_one; rw [ePE] at h; exact @h
noncomputable def binT := by have h := @L2.binT; rw [ePE] at h; exact @h
noncomputable def pe_cmpR := by have h := @L2.pe_cmpR; rw [ePE] at h; exact @h
noncomputable def pss_nil := by have h := @L2.pss_nil; rw [ePSs] at h; exact @h
noncomputable def PW.pt := by have h := @L2.PW.pt; rw [ePT, ePW] at h; exact @h
noncomputable def pe_meth := by have h := @L2.pe_meth; rw [ePE, ePA] at h; exact @h
noncomputable def pw_and := by have h := @L2.pw_and; rw [ePT, ePW] at h; exact @h
noncomputable def pt_cmp := by have h := @L2.pt_cmp; rw [ePT] at h; exact @h
noncomputable def pe_slice := by have h := @L2.pe_slice; rw [ePE] at h; exact @h
noncomputable def pe_chain := by have h := @L2.pe_chain; rw [ePE] at h; exact @h
noncomputable def pa_nil := by have h := @L2.pa_nil; rw [ePA] at h; exact @h
noncomputable def pe_int := by have h := @L2.pe_int; rw [ePE] at h; exact @h
noncomputable def pi_list := by have h := @L2.pi_list; rw [ePE, ePI] at h; exact @h
noncomputable def PT.nox := by have h := @L2.PT.nox; rw [ePT] at h; exact @h
noncomputable def pe_str := by have h := @L2.pe_str; rw [ePE] at h; exact @h
noncomputable def ps_set := by have h := @L2.ps_set; rw [ePE, ePS] at h; exact @h
noncomputable def pe_bl := by have h := @L2.pe_bl; rw [ePE] at h; exact @h
noncomputable def po_some := by have h := @L2.po_some; rw [ePE] at h; exact @h
noncomputable def Fun.ok := by have h := @L2.Fun.ok; rw [ePSs] at h; exact @h
noncomputable def pt_not := by have h := @L2.pt_not; rw [ePT] at h; exact @h
noncomputable def pe_not := by have h := @L2.pe_not; rw [ePE] at h; exact @h
noncomputable def pg_sub := by have h := @L2.pg_sub; rw [ePE, ePG] at h; exact @h
noncomputable def pe_non := by have h := @L2.pe_non; rw [ePE] at h; exact @h
noncomputable def pe_lst := by have h := @L2.pe_lst; rw [ePE, ePA] at h; exact @h
noncomputable def PSs.nox := by have h := @L2.PSs.nox; rw [ePSs] at h; exact @h
noncomputable def pa_cons := by have h := @L2.pa_cons; rw [ePE, ePA] at h; exact @h
noncomputable def PE.nox := by have h := @L2.PE.nox; rw [ePE] at h; exact @h
noncomputable def ps_expr := by have h := @L2.ps_expr; rw [ePE, ePS] at h; exact @h
noncomputable def pw_or := by have h := @L2.pw_or; rw [ePT, ePW] at h; exact @h
noncomputable def pc_din := by have h := @L2.pc_din; rw [ePE] at h; exact @h
noncomputable def pe_dnewK := by have h := @L2.pe_dnewK; rw [ePE] at h; exact @h
noncomputable def pc_dnotin := by have h := @L2.pc_dnotin; rw [ePE] at h; exact @h
noncomputable def ps_dput := by have h := @L2.ps_dput; rw [ePE, ePS] at h; exact @h
noncomputable def pe_dget := by have h := @L2.pe_dget; rw [ePE] at h; exact @h
noncomputable def comp_run := by have h := @L2.comp_run; rw [ePE, ePG, ePFs] at h; exact @h
noncomputable def ps_setComp := by have h := @L2.ps_setComp; rw [ePE, ePS, ePG, ePI, ePFs] at h; exact @h
noncomputable def pe_comp := by have h := @L2.pe_comp; rw [ePE, ePG, ePI, ePFs] at h; exact @h
noncomputable def pf_one := by have h := @L2.pf_one; rw [ePT, ePFs] at h; exact @h
noncomputable def pf_nil := by have h := @L2.pf_nil; rw [ePFs] at h; exact @h
noncomputable def pi_str := by have h := @L2.pi_str; rw [ePE, ePI] at h; exact @h
noncomputable def Fun.okC := by have h := @L2.Fun.okC; rw [ePSs] at h; exact @h
noncomputable def pi_zip := by have h := @L2.pi_zip; rw [ePA, ePI] at h; exact @h
noncomputable def pg_tupK := by have h := @L2.pg_tupK; rw [ePG, ePGs] at h; exact @h
noncomputable def pe_fldK := by have h := @L2.pe_fldK; rw [ePE] at h; exact @h
noncomputable def pe_bmK := by have h := @L2.pe_bmK; rw [ePE, ePA] at h; exact @h
noncomputable def pa_lists := by have h := @L2.pa_lists; rw [ePA] at h; exact @h
noncomputable def pa_consts := by have h := @L2.pa_consts; rw [ePA] at h; exact @h
noncomputable def const_pe := by have h := @L2.const_pe; rw [ePE] at h; exact @h
noncomputable def pe_rev := by have h := @L2.pe_rev; rw [ePE] at h; exact @h
noncomputable def pe_minKey := by have h := @L2.pe_minKey; rw [ePE, ePA] at h; exact @h
noncomputable def pe_values := by have h := @L2.pe_values; rw [ePE] at h; exact @h
noncomputable def pi_view := by have h := @L2.pi_view; rw [ePE, ePI] at h; exact @h
noncomputable def pi_enum := by have h := @L2.pi_enum; rw [ePA, ePI] at h; exact @h
noncomputable def FunL.okC := by have h := @L2.FunL.okC; rw [ePSs] at h; exact @h
end L2.W
-- MOD Exc
/-! Exceptions of own classes under ValueError: raised, passed on, caught. -/
namespace L2
open PySem PySem.Spec PyProof.Rows
noncomputable def XO (C a : Addr) : HO := .ext fun h => ∃ o vs, h.get? a = some o ∧ o.cls = .ref C ∧ o.data = .fields vs
section
variable {P : Program} {w : World} {H : Hp} {h : Heap} {a C : Addr} {o : HO}
theorem xo_ok {ob : Obj} {vs : Array Value} (e : h.get? a = some ob) (c : ob.cls = .ref C) (d : ob.data = .fields vs) : ObjOk P w H h a (XO C a) :=
  ⟨⟨ob, vs, e, c, d⟩, ⟨ob, e⟩, fun _ _ ⟨o, vs, e, c, d⟩ k => ⟨o, vs, k _ e, c, d⟩⟩
theorem xo_of (ok : HOk P w H h) (e : H a = some (XO C a)) : ∃ o vs, h.get? a = some o ∧ o.cls = .ref C ∧ o.data = .fields vs := (show ObjOk P w H h a (XO C a) from ok a _ e).1
theorem ObjOk.ex (x : ObjOk P w H h a o) : ∃ ob, h.get? a = some ob := by
  cases o with
  | lst xs => obtain ⟨_, _, _, _, e⟩ := x; exact ⟨_, e⟩
  | tup xs => obtain ⟨_, _, _, ob, e, _⟩ := x; exact ⟨_, e⟩
  | dK kvs => obtain ⟨_, _, _, _, o, _, _, e, _⟩ := x; exact ⟨_, e⟩
  | dT kvs => obtain ⟨_, _, _, _, o, _, _, e, _⟩ := x; exact ⟨_, e⟩
  | set S n => obtain ⟨o, _, _, _, e, _⟩ := x; exact ⟨_, e⟩
  | ins C dx fs => obtain ⟨_, _, _, e, _⟩ := x; exact ⟨_, e⟩
  | own y => exact x
  | xd fs => obtain ⟨_, ⟨_, _, _, e, _⟩, _⟩ := x; exact ⟨_, e⟩
  | rng lo hi => obtain ⟨_, _, _, e⟩ := x; exact ⟨_, e⟩
  | frz ob u => exact ⟨_, x.1⟩
  | tbl ps => exact ⟨_, x⟩
  | met f y => exact ⟨_, x⟩
  | ext φ => exact x.2.1
theorem HOk.noth (ok : HOk P w H h) (e : h.get? a = none) : H a = none := by
  cases q : H a with
  | none => rfl
  | some u =>
    obtain ⟨ob, eb⟩ := (ok a u q).ex
    rw [e] at eb
    cases eb
end
noncomputable def Tr (G : Addr → Prop) (H : Hp) (h : Heap) (e : Addr) : Prop := ∃ o vs a0 T oT ts, h.get? e = some o ∧ o.data = .fields vs ∧ vs[0]? = some a0 ∧ vs[1]? = some (.ref T) ∧ G T ∧ H T = none ∧ h.get? T = some oT ∧ oT.data = .fields ts ∧ ts[3]? = some .none
noncomputable def Fresh (h : Heap) (e : Addr) : Prop := ∃ o vs a0, h.get? e = some o ∧ o.data = .fields vs ∧ vs[0]? = some a0 ∧ vs[1]? = some .none
theorem Tr.imp {G G' : Addr → Prop} {H : Hp} {h : Heap} {e : Addr} (x : Tr G H h e) (f : ∀ T, G T → G' T) : Tr G' H h e :=
  let ⟨o, vs, a0, T, oT, ts, h1, h2, h3, h4, g, r⟩ := x
  ⟨o, vs, a0, T, oT, ts, h1, h2, h3, h4, f _ g, r⟩
noncomputable def CXM (P : Program) (w : World) : CXT := fun outer H s E u s' => ∃ e C H', u = .ref e ∧ s'.os = s.os ∧ AllBare s'.gens ∧ Un (frs outer) [] H H' s.heap s'.heap ∧ HOk P w H' s'.heap ∧ H' e = some (XO C e) ∧ Tr (fun T => s.heap.get? T = none) H' s'.heap e ∧ E (.ref C) (some e) H'
theorem calmM {P : Program} {w : World} : Calm (CXM P w) := fun _ _ _ _ _ ⟨_, _, _, _, _, _, _, _, _, _, q⟩ => q

/-! ### what passing writes -/
structure Mvd (l : List Env) (e T0 : Addr) (cls a0 fl : Value) (h h' : Heap) : Prop where
  keep : ∀ b o, h.get? b = some o → b ≠ e → b ≠ T0 → b ∉ frs l → h'.get? b = some o
  slot : ∀ b o, h.get? b = some o → b ∈ frs l → ∃ sl, h'.get? b = some { o with slots := sl }
  tr : ∃ oe vs T oT ts, h'.get? e = some oe ∧ oe.cls = cls ∧ vs[0]? = some a0 ∧ oe.data = .fields vs ∧ vs[1]? = some (.ref T) ∧ (T = T0 ∨ h.get? T = none) ∧ T ≠ e ∧ h'.get? T = some oT ∧ oT.data = .fields ts ∧ ts[3]? = some fl
noncomputable abbrev bas (h : Heap) (l : List Env) (e T0 : Addr) : Heap := PySem.W.hideAll h (e :: T0 :: frs l)
section
variable {base h h' : Heap} {l : List Env} {e T0 : Addr} {cls a0 fl : Value}
theorem moved (hl : h.FunFrames base l) (st : (bas h l e T0).StaysIn h') (ff : h'.FunFrames (bas h l e T0) l) (tr : h'.TracedAtW (bas h l e T0) e cls a0 fl) (up : h.UpToSlots h') : Mvd l e T0 cls a0 fl h h' := by
  refine ⟨fun b o q n1 n2 n3 => st b o (PySem.W.hideAll_get _ q ?_), fun b o q hb => ?_, ?_⟩
  · intro z
    rcases List.mem_cons.mp z with z | z
    · exact n1 z
    · rcases List.mem_cons.mp z with z | z
      · exact n2 z
      · exact n3 z
  · obtain ⟨_, o', ho, hn⟩ := hl.mem hb
    rw [q] at ho
    cases ho
    exact up b o q hn
  · obtain ⟨oe, vs, T, oT, ts, he, ⟨hc, h0⟩, hd, h1, hn, hne, hT, hdT, h3⟩ := tr
    refine ⟨oe, vs, T, oT, ts, he, hc, h0, hd, h1, ?_, hne, hT, hdT, h3⟩
    cases q : h.get? T with
    | none => exact .inr rfl
    | some o =>
      refine .inl (Classical.byContradiction fun nT => ?_)
      have : (bas h l e T0).get? T = some o := PySem.W.hideAll_get _ q fun z => by
        rcases List.mem_cons.mp z with z | z
        · exact hne z
        · rcases List.mem_cons.mp z with z | z
          · exact nT z
          · obtain ⟨_, o', ho, hnf⟩ := ff.mem z
            rw [hT] at ho
            cases ho
            exact hnf _ hdT
      rw [hn] at this
      cases this
theorem fly_of (hl : h.FunFrames base l) {oe oT : Obj} {vs ts : Array Value} (he : h.get? e = some oe) (hd : oe.data = .fields vs) (h0 : vs[0]? = some a0) (h1 : vs[1]? = some (.ref T0)) (hne : T0 ≠ e) (hT : h.get? T0 = some oT) (hdT : oT.data = .fields ts) (h3 : ts[3]? = some .none) :
    Heap.FlyingW (bas h l e T0) l e oe.cls a0 h :=
  ⟨fun b o q => PySem.W.of_hideAll _ q, PySem.W.hideAll_none _ (.head _), PySem.W.funFrames_hide hl fun env he a ea => .tail _ (.tail _ (List.mem_filterMap.mpr ⟨env, he, ea⟩)), oe, vs, T0, oT, ts, he, ⟨rfl, h0⟩, hd, h1, PySem.W.hideAll_none _ (.tail _ (.head _)), hne, hT, hdT, h3⟩
end
section
variable {X : Cx} {pins : List (Addr × Obj)} {σ : St} {H : Hp} {s : Shared} {e C T0 : Addr} {h' : Heap} {cls a0 fl : Value}
theorem Mvd.ex (m : Mvd X.stack e T0 cls a0 fl s.heap h') (b : Addr) (o : Obj) (q : s.heap.get? b = some o) (h2 : b ≠ T0) : ∃ o', h'.get? b = some o' := by
  obtain ⟨oe, _, _, _, _, he, _⟩ := m.tr
  by_cases h1 : b = e
  · rw [h1]; exact ⟨oe, he⟩
  · by_cases h3 : b ∈ frs X.stack
    · obtain ⟨sl, z⟩ := m.slot b o q h3
      exact ⟨_, z⟩
    · exact ⟨o, m.keep b o q h1 h2 h3⟩
theorem Mvd.hok (m : Mvd X.stack e T0 (.ref C) a0 fl s.heap h') (I : Inv X pins σ H s) (he : H e = some (XO C e)) (hT : T0 = e ∨ H T0 = none) : HOk X.prog X.w H h' := fun b u eb => by
  by_cases h1 : b = e
  · subst h1
    rw [he] at eb
    cases eb
    obtain ⟨oe, vs, _, _, _, h2, h3, _, h4, _⟩ := m.tr
    exact xo_ok h2 h3 h4
  · refine (I.hok b u eb).stay (fun c v hc q => m.keep c v q ?_ ?_ ?_) (fun _ q => q) fun _ _ q => q
    · rintro rfl
      rcases hc with z | z
      · exact h1 z.symm
      · rw [he] at z; cases z
    · rintro rfl
      rcases hT with z | z
      · subst z
        rcases hc with z | z
        · exact h1 z.symm
        · rw [he] at z; cases z
      · rcases hc with y | y
        · rw [← y, z] at eb; cases eb
        · rw [z] at y; cases y
    · intro z
      have := I.stkFree c z
      rcases hc with y | y
      · rw [← y, this] at eb; cases eb
      · rw [this] at y; cases y
theorem Inv.moved {t' : Nat} (I : Inv X pins σ H s) (he : H e = some (XO C e)) (hT : H T0 = none) (h0 : X.s₀.heap.get? T0 = none) (hp : ∀ p ∈ X.pn ++ pins, p.1 ≠ T0) {oT : Obj} {ts : Array Value} (eT : s.heap.get? T0 = some oT) (dT : oT.data = .fields ts)
    (m : Mvd X.stack e T0 (.ref C) a0 fl s.heap h') : Inv X pins σ H { s with heap := h', toks := t' } := by
  have nL : T0 ≠ X.env.locals := by
    rintro rfl
    obtain ⟨_, ⟨o, es, ep, ho, hd, _⟩, _⟩ := I.loc
    rw [ho] at eT; cases eT; rw [hd] at dT; cases dT
  have nC : ∀ x c, X.env.cells.lookup x = some c → c ≠ T0 := by
    rintro x c hc rfl
    obtain ⟨v, o, ho, hd⟩ := I.cell x c hc
    rw [ho] at eT; cases eT; rw [hd] at dT; cases dT
  have neS : ∀ b, H b = none → b ≠ e := fun b n z => by rw [z, he] at n; cases n
  have sub : ∀ b, b ∈ X.fs → b ∈ frs X.stack := fun b hb => by
    rcases I.ok.stk with z | ⟨z, hf⟩
    · rw [z]; exact hb
    · rw [z]; unfold frs; rw [List.filterMap_cons, hf]; exact List.mem_cons_of_mem _ hb
  refine I.step (g' := s.gens) (d' := s.drawn) (ch := [T0]) (fun b hb => ?_) (fun b o n1 n2 n3 q n => m.keep b o q (neS b n) (fun z => n3 (by simp [z])) fun z => (List.mem_cons.mp (I.stkSub b z)).elim n1 n2)
    (fun b o n1 n2 n3 q n => m.slot b o q (sub b n2)) (fun b o _ _ n => n) (fun b o n q => m.ex b o q fun z => n (by simp [z])) (fun _ _ q => q) (fun _ _ _ q => q) (fun b ps q => ⟨#[], by rw [q]; simp⟩) (fun mm hm => ?_) (m.hok I he (.inr hT)) I.bare
  · have : b = T0 := by simpa using hb
    subst this
    exact ⟨.inr h0, nL, nC, hp⟩
  · obtain ⟨o, es, ep, ho, hd, r⟩ := hm
    by_cases z : X.env.locals ∈ frs X.stack
    · obtain ⟨sl, q⟩ := m.slot _ _ ho z
      exact ⟨_, es, ep, q, hd, r⟩
    · exact ⟨o, es, ep, m.keep _ _ ho (neS _ I.free) (Ne.symm nL) z, hd, r⟩
theorem leave_cx {E : XK} {E' : Value → Shared → Prop} (I : Inv X pins σ H s) (hx : X.ex = []) (hs : X.stack = X.env :: X.outer) (hf : X.env.frame = some X.env.locals) (he : H e = some (XO C e)) (fl : Fresh s.heap e ∨ Tr (fun T => X.s₀.heap.get? T = none) H s.heap e) (q : E (.ref C) (some e) H) :
    wpAny (model X.prog X.w) X.A (leaving X.env (.ref e)) (fun _ s'' => CXM X.prog X.w X.outer X.H₀ X.s₀ E (.ref e) s'') E' s := by
  have hfr : X.A.frames = some (X.env :: X.outer) := by rw [← hs]; exact I.ok.frames
  have hl : s.heap.FunFrames X.base (X.env :: X.outer) := by rw [← hs]; exact I.stack
  obtain ⟨ox, vx, hox, hcx, hdx⟩ := xo_of I.hok he
  have fin : ∀ (T0 : Addr) (h' : Heap) (a0 : Value), (T0 = e ∨ (H T0 = none ∧ X.s₀.heap.get? T0 = none)) → Mvd X.stack e T0 (.ref C) a0 .none s.heap h' → CXM X.prog X.w X.outer X.H₀ X.s₀ E (.ref e) { s with heap := h' } := by
    intro T0 h' a0 hT m
    have hT1 : T0 = e ∨ H T0 = none := hT.imp_right fun z => z.1
    have back : ∀ b o, X.s₀.heap.get? b = some o → ∃ o', s.heap.get? b = some o' := fun b o z => I.base.there b o z (by rw [hx]; simp)
    have nT : ∀ b o, X.s₀.heap.get? b = some o → H b = none → b ≠ T0 := fun b o z n y => by
      rcases hT with w | ⟨_, w⟩
      · rw [y, w, he] at n; cases n
      · rw [y, w] at z; cases z
    have nE : ∀ b, H b = none → b ≠ e := fun b n z => by rw [z, he] at n; cases n
    have nL : ∀ b o, X.s₀.heap.get? b = some o → b ≠ X.env.locals := fun b o z => Nat.ne_of_lt (Nat.lt_of_lt_of_le (Heap.lt_size z) I.ok.above)
    have inS : ∀ b, b ∈ frs X.stack → b = X.env.locals ∨ b ∈ frs X.outer := fun b z => List.mem_cons.mp (I.stkSub b z)
    obtain ⟨oe, vs, T, oT, ts, h1, h2, h3, h4, h5, h6, h7, h8, h9, h10⟩ := m.tr
    refine ⟨e, C, H, rfl, I.os, I.bare, ⟨fun b o z n hb _ => ?_, fun b o z n hb _ => ?_, fun b o z n _ => I.base.free b o z n (by rw [hx]; simp), fun b o z _ => ?_, I.base.tups, I.base.frzs, I.base.tbls⟩, m.hok I he hT1, he, ⟨oe, vs, a0, T, oT, ts, h1, h4, h3, h5, ?_, ?_, h8, h9, h10⟩, q⟩
    · have n' := I.base.free b o z n (by rw [hx]; simp)
      exact m.keep b o (I.base.keep b o z n hb (by rw [hx]; simp)) (nE b n') (nT b o z n') fun y => (inS b y).elim (nL b o z) hb
    · obtain ⟨sl, z1⟩ := I.base.slot b o z n hb (by rw [hx]; simp)
      obtain ⟨sl', z2⟩ := m.slot b _ z1 (by rw [hs]; unfold frs; rw [List.filterMap_cons, hf]; exact List.mem_cons_of_mem _ hb)
      exact ⟨sl', z2⟩
    · obtain ⟨o', z1⟩ := back b o z
      by_cases y : b = T0
      · rcases hT with w | ⟨_, w⟩
        · rw [y, w]; exact ⟨oe, h1⟩
        · rw [y, w] at z; cases z
      · exact m.ex b o' z1 y
    · show X.s₀.heap.get? T = none
      rcases h6 with z | z
      · rcases hT with y | ⟨_, y⟩
        · exact absurd (z.trans y) h7
        · rw [z]; exact y
      · cases y : X.s₀.heap.get? T with
        | none => rfl
        | some o =>
          obtain ⟨o', y1⟩ := back T o y
          rw [z] at y1; cases y1
    · rcases h6 with z | z
      · rcases hT with y | ⟨y, _⟩
        · exact absurd (z.trans y) h7
        · rw [z]; exact y
      · exact I.hok.noth z
  rcases fl with ⟨oe, vs, a0, h1, h2, h3, h4⟩ | ⟨oe, vs, a0, T0, oT, ts, h1, h2, h3, h4, g, n, h5, h6, h7⟩
  · rw [h1] at hox; cases hox
    refine wpAny_leaving_firstW (base := bas s.heap (X.env :: X.outer) e e) (a0 := a0) hfr (PySem.W.funFrames_hide hl fun env he a ea => .tail _ (.tail _ (List.mem_filterMap.mpr ⟨env, he, ea⟩))) hf h1 (fun b o z => PySem.W.of_hideAll _ z) (PySem.W.hideAll_none _ (.head _)) h2 h4 h3 fun h' hL => ?_
    obtain ⟨k1, k2, k3, k4⟩ := hL
    rw [hcx] at k3
    refine fin e h' a0 (.inl rfl) ?_
    rw [hs]
    exact L2.moved hl k1 k2 k3 k4
  · rw [h1] at hox; cases hox
    have hne : T0 ≠ e := fun z => by rw [z, he] at n; cases n
    have F := fly_of hl h1 h2 h3 h4 hne h5 h6 h7
    rw [hcx] at F
    refine wpAny_leaving_nextW hfr F.2.2.1 hf F.2.2.2 F.1 F.2.1 fun h' hL => ?_
    obtain ⟨k1, k2, k3, k4⟩ := hL
    have m := L2.moved hl k1 k2 k3 k4
    exact fin T0 h' a0 (.inr ⟨n, g⟩) (by rw [hs]; exact m)
end
end L2
-- MOD Exc2
/-! raise C(..), an exception of a callee. -/
namespace L2
open PySem PySem.Spec PyProof.Rows
theorem exc_obj {K : PySem.W.Frag} {h : Heap} {C : Addr} {bmB : List Value} {newId : String} (X : K.In h) (q : PySem.W.excIn K C bmB newId = true) :
    ∃ bm N nm q bs hdct sn sub ab col dd k0 k1 k2 k3 k5 mN, h.get? C = some (excClassObj nm q C N bs bm hdct sn sub ab col dd k0 k1 k2 k3 k5 newId) ∧ h.Ns N mN ∧ mN "__init__" = none ∧ OwnTail h bmB bm := by
  unfold PySem.W.excIn at q
  split at q
  · rename_i dd cd sl ho
    split at q
    · rename_i C' bm k0 k1 k2 k3 n k5 hm hs
      simp only [Bool.and_eq_true, beq_iff_eq, Bool.not_eq_true'] at q
      obtain ⟨⟨⟨⟨⟨rfl, rfl⟩, hdel⟩, ht⟩, hok⟩, hni⟩ := q
      obtain ⟨nm, bs, mro, ns, qn, hd, sn, sub, ab, col, del⟩ := cd
      dsimp only at hm hdel hok hni
      subst hm hdel
      have hsl : sl = #[k0, k1, k2, k3, some (.builtin n), k5] := by
        obtain ⟨l⟩ := sl
        simp only at hs
        rw [hs]
      subst hsl
      exact ⟨bm, ns, nm, qn, bs, hd, sn, sub, ab, col, dd, k0, k1, k2, k3, k5, _, X _ _ ho, .of_isNs (PySem.W.isNs_of_in X hok), PySem.W.nsMap_none_of_in X hok hni, PySem.W.tail_of_in X ht⟩
    · cases q
  · cases q
section
variable {X : Cx} {pins : List (Addr × Obj)} {σ : St} {H H' : Hp} {s : Shared} {e C : Addr} {h h' : Heap} {o : HO}
theorem Un.born {fs ex : List Addr} (k : ∀ b u, h.get? b = some u → h'.get? b = some u) (hp : h.get? e = none) (hn : H e = none) : Un fs ex H (upd H e o) h h' where
  keep := fun b u q _ _ _ => k b u q
  slot := fun b u q _ _ _ => ⟨u.slots, k b u q⟩
  free := fun b u q n _ => by rw [upd_ne (fun z => by rw [z, hp] at q; cases q)]; exact n
  there := fun b u q _ => ⟨u, k b u q⟩
  tups := fun b xs q => by rw [upd_ne (ne_of_none q hn)]; exact q
  frzs := fun b u xs q => by rw [upd_ne (ne_of_none q hn)]; exact q
  tbls := fun b ps q => ⟨#[], by rw [upd_ne (ne_of_none q hn), q]; simp⟩
theorem HOk.born {P : Program} {w : World} (x : HOk P w H h) (k : ∀ b u, h.get? b = some u → h'.get? b = some u) (hp : h.get? e = none) (new : ObjOk P w (upd H e o) h' e o) : HOk P w (upd H e o) h' := fun b u q => by
  have hn := x.noth hp
  by_cases hb : b = e
  · subst hb; rw [upd_same] at q; cases q; exact new
  · rw [upd_ne hb] at q
    exact (x b u q).stay (fun c v _ q => k c v q) (fun c q => by rw [upd_ne (ne_of_none q hn)]; exact q) fun c xs q => by rw [upd_ne (ne_of_none q hn)]; exact q
theorem Inv.born {t' : Nat} (I : Inv X pins σ H s) (k : ∀ b u, s.heap.get? b = some u → h'.get? b = some u) (hp : s.heap.get? e = none) (new : ObjOk X.prog X.w (upd H e o) h' e o) : Inv X pins σ (upd H e o) { s with heap := h', toks := t' } :=
  I.un (Un.born k hp (I.hok.noth hp)) (I.hok.born k hp new)
theorem Inv.cx {s' : Shared} {E : XK} {u : Value} (I : Inv X pins σ H s) (c : CXM X.prog X.w X.stack H s E u s') :
    ∃ e C H', u = .ref e ∧ Inv X pins σ H' s' ∧ H' e = some (XO C e) ∧ Tr (fun T => s.heap.get? T = none) H' s'.heap e ∧ E (.ref C) (some e) H' := by
  obtain ⟨e, C, H', rfl, os, bare, un, hok, he, tr, q⟩ := c
  exact ⟨e, C, H', rfl, I.call' (ch := []) os un hok bare (fun b z => absurd z (by simp)), he, tr, q⟩
theorem Inv.back (I : Inv X pins σ H s) (hx : X.ex = []) {T : Addr} (n : s.heap.get? T = none) : X.s₀.heap.get? T = none := by
  cases y : X.s₀.heap.get? T with
  | none => rfl
  | some o =>
    obtain ⟨o', y1⟩ := I.base.there T o y (by rw [hx]; simp)
    rw [n] at y1; cases y1
end
section
variable {P : Program} {w : World} {K : PySem.W.Frag} {mg : Str → Option Value} {base : Heap} {N : List Str} {qual : Str} {scope : Scope} {f : Addr} {cd : Value} {A : Around} {outer : List Env} {s : Shared} {H : Hp} {E : XK}
noncomputable abbrev cxM (P : Program) (w : World) (K : PySem.W.Frag) (mg : Str → Option Value) (base : Heap) (N : List Str) (qual : Str) (scope : Scope) (f : Addr) (cd : Value) (A : Around) (outer : List Env) (s : Shared) (H : Hp) (E : XK) : Cx := cxOf (CXM P w) P w K mg base N qual scope f cd A outer s H E
theorem xe_new {pins : List (Addr × Obj)} {σ : St} {H' : Hp} {s' : Shared} {e C : Addr} (I : Inv (cxM P w K mg base N qual scope f cd A outer s H E) pins σ H' s') (he : H' e = some (XO C e)) (fl : Fresh s'.heap e ∨ Tr (fun T => s.heap.get? T = none) H' s'.heap e) (q : E (.ref C) (some e) H') :
    (cxM P w K mg base N qual scope f cd A outer s H E).xe (.ref e) s' := leave_cx I rfl rfl rfl he fl q
theorem pass_on : Passes (CXM P w) (cxM P w K mg base N qual scope f cd A outer s H E) (fun _ => E) := fun pins σ H1 s1 u s2 I c => by
  obtain ⟨e, C, H', rfl, I', he, tr, q⟩ := I.cx c
  exact xe_new I' he (.inr (tr.imp fun T n => I.back rfl n)) q
end
section
variable {X : Cx} {x : Str} {np cpos pos : Pos} {a : Expr} {as : List Expr} {t : TA} {C : Addr} {W : St → Addr → Hp → Prop}
theorem ps_raise (hc : PySem.W.excIn X.K C [.type "ValueError", .type "Exception", .type "BaseException", .type "object"] "ValueError.__new__" = true) (hg : Gl X x) (hm : X.mg x = some (.ref C)) (hcm : X.calm = true) (ha : PA X (a :: as) t)
    (hx : ∀ pins σ H s e, Inv X pins σ H s → H e = some (XO C e) → Fresh s.heap e → W σ e H → X.xe (.ref e) s) (hdb : (x == ("__debug__" : Str)) = false := by decide)
    (he : starEach (a :: as) X.env = (false, eval a X.env) :: starEach as X.env := by rfl) (hpl : (backTo cpos (starEach as X.env)).any (·.1) = false := by rfl) :
    PS X (.Raise (some (.Call (.Name x np) (a :: as) [] cpos)) none pos) (fun _ σ H => t σ H fun vs H1 => vs.length ≤ sizeLine ∧ ∀ e, H1 e = none → W σ e (upd H1 e (XO C e))) := by
  intro pins s σ H D I h
  obtain ⟨bm, N, nm, q, bs, hdct, sn, sub, ab, col, dd, k0, k1, k2, k3, k5, mN, hC, hN, hni, T⟩ := exc_obj I.ok.mod.kin hc
  have hA := ha cpos pins s σ H _ I h
  refine wpAny_Raise_call_subU (C := C) (nm := nm) (q := q) (N := N) (bs := bs) (bm := bm) (hdct := hdct) (sn := sn) (sub := sub) (ab := ab) (col := col) (dd := dd) (k0 := k0) (k1 := k1) (k2 := k2) (k3 := k3) (k5 := k5)
    PySem.F.excBase_ValueError PySem.F.excBase_ValueError.hasB PySem.F.excBase_ValueError (mN := mN) (T.hasType PySem.F.excBase_ValueError.hasBase) (I.ok.hd hcm) (by rw [he]; show (false || (backTo cpos (starEach as X.env)).any (·.1)) = false; rw [hpl]; rfl) hni (ld_glob I hg hm ⟨rfl, ?_⟩ hdb)
  rw [he] at hA ⊢
  refine Calls.evalArgs_plain (thn hA fun us s2 ⟨vs, H2, I2, r, hz, k⟩ => ⟨rfl, by rw [← r.length]; exact hz, I2.bk _ _ hC, hN.keeps I2.bk, T.keeps I2.bk, fun h' e hm => ?_⟩)
  obtain ⟨tt, h1, h2, h3⟩ := hm.there
  exact hx pins σ _ { s2 with heap := h' } e (I2.born (t' := s2.toks) (o := XO C e) hm.keeps hm.new (xo_ok h1 rfl rfl)) upd_same ⟨_, _, _, h1, rfl, rfl, rfl⟩ (k e (I2.hok.noth hm.new))
end
end L2
-- MOD Exc3
/-! try .. except C as e. -/
namespace L2
open PySem PySem.Spec PyProof.Rows
noncomputable abbrev TW := St → Addr → Addr → Hp → Prop
noncomputable def Cx.tri (X : Cx) (pins : List (Addr × Obj)) (W : TW) : Cx := { X with
  pn := X.pn ++ pins
  xe := fun u s' => ∃ e C σ' H', u = .ref e ∧ Inv X pins σ' H' s' ∧ H' e = some (XO C e) ∧ Tr (fun T => X.s₀.heap.get? T = none ∧ ∀ p ∈ X.pn ++ pins, p.1 ≠ T) H' s'.heap e ∧ W σ' e C H' }
noncomputable def Cx.hnd (X : Cx) (e : Addr) : Cx := { X with
  A := X.A.mark (some (.ref e))
  calm := false
  xe := fun _ _ => False }
section
variable {X : Cx} {pins pins' : List (Addr × Obj)} {σ : St} {H : Hp} {s : Shared} {W : TW} {e : Addr}
theorem Cx.Ok.tri (ok : X.Ok) : (X.tri pins W).Ok := ⟨ok.mod, ok.kind, ok.glob, ok.blt, ok.above, ok.inj, ok.has, ok.cab, ok.hd, ok.frames, ok.stk, ok.exf, ok.bs, ok.bsz, ok.noex, ok.exfs, ok.funs, ok.frf⟩
theorem Cx.Ok.untri (ok : (X.tri pins W).Ok) : X.Ok := ⟨ok.mod, ok.kind, ok.glob, ok.blt, ok.above, ok.inj, ok.has, ok.cab, ok.hd, ok.frames, ok.stk, ok.exf, ok.bs, ok.bsz, ok.noex, ok.exfs, ok.funs, ok.frf⟩
theorem Cx.Ok.hnd (ok : X.Ok) : (X.hnd e).Ok := ⟨ok.mod, ok.kind, ok.glob, ok.blt, ok.above, ok.inj, ok.has, ok.cab, (fun z => Bool.noConfusion (show false = true from z)), ok.frames, ok.stk, ok.exf, ok.bs, ok.bsz, ok.noex, ok.exfs, ok.funs, ok.frf⟩
theorem Inv.tri (I : Inv X pins σ H s) : Inv (X.tri pins W) [] σ H s := ⟨I.ok.tri, I.os, I.bare, I.base, I.loc, I.cell, I.free, I.freeC, fun p hp => I.pin p (by simpa [Cx.tri] using hp), I.hok, I.len⟩
theorem Inv.untri (I : Inv (X.tri pins W) pins' σ H s) : Inv X pins σ H s := ⟨I.ok.untri, I.os, I.bare, I.base, I.loc, I.cell, I.free, I.freeC, fun p hp => I.pin p (List.mem_append_left _ hp), I.hok, I.len⟩
theorem Inv.hnd (I : Inv X pins σ H s) : Inv (X.hnd e) pins σ H s := ⟨I.ok.hnd, I.os, I.bare, I.base, I.loc, I.cell, I.free, I.freeC, I.pin, I.hok, I.len⟩
theorem Inv.unhnd (ok : X.Ok) (I : Inv (X.hnd e) pins σ H s) : Inv X pins σ H s := ⟨ok, I.os, I.bare, I.base, I.loc, I.cell, I.free, I.freeC, I.pin, I.hok, I.len⟩
theorem SP.untri {D : Ends} {f : Flow} {s' : Shared} (h : SP (X.tri pins W) pins' D f s') : SP X pins D f s' := by
  cases f with
  | next => obtain ⟨σ', H', I, q⟩ := h; exact ⟨σ', H', I.untri, q⟩
  | brk => obtain ⟨σ', H', I, q⟩ := h; exact ⟨σ', H', I.untri, q⟩
  | cont => obtain ⟨σ', H', I, q⟩ := h; exact ⟨σ', H', I.untri, q⟩
  | ret u => obtain ⟨v, σ', H', I, r, q⟩ := h; exact ⟨v, σ', H', I.untri, r, q⟩
theorem pass_try (hx : X.ex = []) : Passes (CXM X.prog X.w) (X.tri pins W) (fun σ cls eo H' => ∃ e C, cls = .ref C ∧ eo = some e ∧ W σ e C H') := fun pins' σ H1 s1 u s2 I c => by
  obtain ⟨e, C, H', rfl, I', he, tr, e', C', h1, h2, q⟩ := I.cx c
  cases h1; cases h2
  exact ⟨e, C, σ, H', rfl, I'.untri, he, tr.imp fun T n => ⟨I.back hx n, fun p hp z => by
    have := (I.pin p (List.mem_append_left _ hp)).1
    rw [z, n] at this
    cases this⟩, q⟩
theorem Inv.gone {i : Nat} {n : Str} {v : Option Value} {m : Str → Option Value} {h' : Heap} {t' : Nat} (I : Inv X pins σ H s) (hN : X.N.Nodup) (hi : X.N[i]? = some n)
    (hl : ∀ (j : Nat) (x : Str) (v : V), X.N[j]? = some x → σ[j]? = some (some v) → Vis X.env.scope x → ∃ u, RelV v u ∧ Look X.env s.heap m x u) (hn : h'.Ns X.env.locals (fun x => if x = n then v else m x)) (hs : Heap.SameBut X.env.locals s.heap h') :
    Inv X pins (σ.set i none) H { s with heap := h', toks := t' } := by
  obtain ⟨oL, _, _, hoL, _⟩ := id I.loc.choose_spec.1
  have cne := I.cne
  refine ⟨I.ok, I.os, I.bare, ⟨fun b o e n hb hx => ?_, fun b o e n hb hx => ?_, I.base.free, fun b o e hx => ?_, I.base.tups, I.base.frzs, I.base.tbls⟩, ⟨_, hn, fun j y v' e1 e2 e3 => ?_⟩, fun y c e => ?_, I.free, I.freeC, fun p hp => ?_, fun b ob e => ?_, by simpa using I.len⟩
  · exact (hs.2 b (Nat.ne_of_lt (Nat.lt_of_lt_of_le (Heap.lt_size e) I.ok.above))).trans (I.base.keep b o e n hb hx)
  · obtain ⟨sl, e1⟩ := I.base.slot b o e n hb hx
    exact ⟨sl, (hs.2 b (Nat.ne_of_lt (Nat.lt_of_lt_of_le (Heap.lt_size e) I.ok.above))).trans e1⟩
  · obtain ⟨o', e1⟩ := I.base.there b o e hx
    exact ⟨o', (hs.2 b (Nat.ne_of_lt (Nat.lt_of_lt_of_le (Heap.lt_size e) I.ok.above))).trans e1⟩
  · have hj : j ≠ i := by
      rintro rfl
      rw [List.getElem?_set] at e2
      simp only [if_true] at e2
      split at e2 <;> cases e2
    rw [List.getElem?_set_ne (Ne.symm hj)] at e2
    obtain ⟨u', r', q⟩ := hl j y v' e1 e2 e3
    refine ⟨u', r', ?_⟩
    rcases q with ⟨k, e⟩ | ⟨k, c, e, z⟩
    · refine .inl ⟨k, ?_⟩
      have : y ≠ n := fun e => hj (nodup_ix hN e1 (e ▸ hi))
      simp [this, e]
    · exact .inr ⟨k, c, e, z.sameBut hs (cne y c e)⟩
  · obtain ⟨w', z⟩ := I.cell y c e
    exact ⟨w', z.sameBut hs (cne y c e)⟩
  · obtain ⟨e, n, ne, nf, d⟩ := I.pin p hp
    exact ⟨(hs.2 p.1 ne).trans e, n, ne, nf, d⟩
  · refine (I.hok b ob e).stay (fun c w' hc q => (hs.2 c ?_).trans q) (fun _ q => q) fun _ _ q => q
    rintro rfl
    rcases hc with hc | hc
    · rw [← hc, I.free] at e; cases e
    · rw [I.free] at hc; cases hc
end
noncomputable def Ends.but (D : Ends) (i : Nat) : Ends := { nx := fun σ H => D.nx (σ.set i none) H, rt := D.rt, bk := fun σ H => D.bk (σ.set i none) H, ct := fun σ H => D.ct (σ.set i none) H }
section
variable {X : Cx} {x n : Str} {np hpos pos : Pos} {body suite : List Stmt} {b₀ : Stmt} {i : Nat} {B : Addr} {tb : TW → TS} {th : Addr → TS}
theorem ps_try (hx : X.ex = []) (hs : X.stack = X.env :: X.outer) (hf : X.env.frame = some X.env.locals) (hN : X.N.Nodup) (hi : X.N[i]? = some n) (hl : X.env.scope.names.lookup n = some .local) (hg : Gl X x) (hm : X.mg x = some (.ref B))
    (hb : ∀ pins W, PSs (X.tri pins W) body (tb W)) (hh : ∀ e, PSs (X.hnd e) (b₀ :: suite) (th e)) (hdb : (x == ("__debug__" : Str)) = false := by decide) :
    PS X (.Try body [.ExceptHandler (some (.Name x np)) (some n) (b₀ :: suite) hpos] [] [] pos) (fun D σ H => ∃ W : TW, tb W D σ H ∧ ∀ σ' e C H', H' e = some (XO C e) → W σ' e C H' → PySem.W.exmOne X.K (.ref C) (.ref B) = some true ∧ th e (D.but i) (σ'.set i (some (.ref e))) H') := by
  intro pins s σ H D I ⟨W, hbW, hW⟩
  refine wpAny_Try_except (wpAny_mono (hb pins W [] s σ H D I.tri hbW) (fun f s1 h1 => ?_) (fun u s1 h1 => ?_))
  · have h1 := h1.untri
    cases f with
    | next =>
      obtain ⟨σ', H', I', q⟩ := h1
      exact pss_nil pins s1 σ' H' D I' q
    | brk => exact h1
    | cont => exact h1
    | ret u => exact h1
  · obtain ⟨e, C, σ', H', rfl, I', he, tr, w⟩ := h1
    obtain ⟨oe, vs, a0, T0, oT, ts, h1, h2, h3, h4, ⟨g1, g2⟩, nT, h5, h6, h7⟩ := tr
    obtain ⟨hK, hT⟩ := hW σ' e C H' he w
    have hfr : X.A.frames = some (X.env :: X.outer) := by rw [← hs]; exact I.ok.frames
    have hl' : s1.heap.FunFrames X.base (X.env :: X.outer) := by rw [← hs]; exact I'.stack
    obtain ⟨ox, vx, hox, hcx, hdx⟩ := xo_of I'.hok he
    rw [h1] at hox; cases hox
    have hne : T0 ≠ e := fun z => by rw [z, he] at nT; cases nT
    have F := fly_of hl' h1 h2 h3 h4 hne h5 h6 h7
    rw [hcx] at F
    have mv : ∀ {h' : Heap} {t' : Nat}, Heap.FlyingW (bas s1.heap (X.env :: X.outer) e T0) (X.env :: X.outer) e (.ref C) a0 h' → s1.heap.UpToSlots h' → Inv X pins σ' H' { s1 with heap := h', toks := t' } := fun {h'} {t'} F up => by
      have m := L2.moved (fl := .none) hl' F.1 F.2.2.1 F.2.2.2 up
      rw [← hs] at m
      exact I'.moved he nT g1 g2 h5 h6 m
    refine wpAny_looks_onW hfr hf F fun h₄ H4 up4 => ?_
    refine wpAny_landsW H4 fun h₅ F5 up5 => ?_
    have I5 := mv (t' := s1.toks) F5 (up4.trans up5)
    have I5h := I5.hnd (e := e)
    refine wpAny_handleBy_cons (codeAny_handlers_test (ld_glob I5h hg hm ?_ hdb)) (by intro q; cases q)
    obtain ⟨o5, ho5, hc5⟩ := F5.there
    have LT : PySem.W.Looks (model X.prog X.w) h₅ (typeOf (.ref e)) (.ref C) := by
      rw [← hc5]
      exact (PySem.W.Looks.ld ho5).andThen .now
    refine PySem.W.exm_one I5.kIn LT hK _ _ _ _ (fun _ _ q => q) ?_
    refine codeAny_handlers_suite_as ?_
    refine lands_againW F5 fun h₆ F6 up6 => ?_
    have I6 := (mv (t' := s1.toks) F6 ((up4.trans up5).trans up6)).hnd (e := e)
    refine store_ok (X := X.hnd e) (i := i) I6 hN hi (.inl hl) (v := .ref e) rfl (fun s7 I7 => ?_) (.inr hl)
    refine wpAny_mono (hh e pins s7 _ H' (D.but i) I7 hT) (fun f s8 h8 => ?_) (fun _ _ z => False.elim z)
    have done : ∀ {σ8 : St} {H8 : Hp} {R : Unit → Shared → Prop} {E : Value → Shared → Prop}, Inv (X.hnd e) pins σ8 H8 s8 → (∀ s9, Inv X pins (σ8.set i none) H8 s9 → R () s9) → wpAny (model X.prog X.w) X.A (do bindName X.env n .none; unbindBehindTheSuite X.env n hpos) R E s8 := fun {σ8 H8 R E} J r => by
      have J := J.unhnd I.ok
      obtain ⟨m, hn, hloc⟩ := id J.loc
      exact wpAny_nameGoes_keeps hl hn (by rw [I.ok.kind]; rfl) fun h9 v hn9 hs9 => r _ (J.gone hN hi hloc hn9 hs9)
    cases f with
    | next => obtain ⟨σ8, H8, J, q⟩ := h8; exact done J fun s9 J9 => ⟨_, _, J9, q⟩
    | brk => obtain ⟨σ8, H8, J, q⟩ := h8; exact done J fun s9 J9 => ⟨_, _, J9, q⟩
    | cont => obtain ⟨σ8, H8, J, q⟩ := h8; exact done J fun s9 J9 => ⟨_, _, J9, q⟩
    | ret u => obtain ⟨v, σ8, H8, J, r, q⟩ := h8; exact done J fun s9 J9 => ⟨v, _, _, J9, r, q⟩
end
end L2
-- MOD Exc4
namespace L2
open PySem PySem.Spec PyProof.Rows PySem.W
section
variable {prog : Program} {w : World} {A : Around} {E : Value → Shared → Prop} {h : Heap} {g : Array GenState} {d : Drawn} {t : Nat} {os : OsState} {a : Addr} {o : Obj}
  {nm q : Str} {C N : Addr} {bs bm : List Value} {hdct : Bool} {sn : List Str} {sub : List Value} {ab : Bool} {col : Option Bool} {dd : Option Addr} {k0 k1 k2 k3 k5 : Option Value} {newId : String}
theorem check_ga {M : Model} {nameV : Value} {Q : Unit → Shared → Prop} (hC : h.get? C = some (excClassObj nm q C N bs bm hdct sn sub ab col dd k0 k1 k2 k3 k5 newId)) (hcB : (Value.ref C :: bm).contains (.type "BaseException") = true)
    (hx : h.get? a = some o) (hc : o.cls = .ref C) (hq : Q () ⟨h, g, d, t, os⟩) : wpAny M A (checkBuiltinCall "BaseException.__getattribute__" ⟨[.ref a, nameV], []⟩) Q E ⟨h, g, d, t, os⟩ := by
  have hk : builtinKind "BaseException.__getattribute__" = some .slot := by decide +kernel
  have hsplit : splitId "BaseException.__getattribute__" = some ("BaseException", "__getattribute__") := by decide +kernel
  have ha := PySem.F.args_bexc_ga (.ref a) nameV
  simp only [checkBuiltinCall, hk, hsplit]
  refine wpAny_bind ?_
  · unfold isInstance
    repeat (first | (with_reducible refine wpAny_loadPart_at hx ?_; rw [hc]) | (with_reducible refine wpAny_isSubtype_exc hC ?_; rw [hcB]) | wp_step)
    exact hq
end
section
variable {prog : Program} {w : World} {A : Around} {E : Value → Shared → Prop} {s : Shared} {K : Frag} {x C D : Addr} {ox : Obj}
open Builtin Builtin.ObjectAttr Builtin.Getset_descriptor in
theorem xc_get {R : Result → Shared → Prop} {tp : Value} (X : K.In s.heap) (L0 : Looks (model prog w) s.heap (typeOf (.ref x)) (.ref D)) (hm : mroIn K D (.type "object") = some true) (h : R (.ok (.ret (.ref D))) s) :
    codeAny (model prog w) A (.call (.builtin "getset_descriptor.__get__") ⟨[.builtin "object.__class__", .ref x, tp], []⟩) R s := by
  obtain ⟨hh, g, dr, t, os⟩ := s
  have L1 := looks_mroIn (M := model prog w) X hm; refine codeAny_call_builtin KF.slot_gs.plain KF.entry_gs (KF.slot_gs.check _ _ _ _ _ _ _ _ KF.type_class (KF.args_gs _ _ _) ?_)
  unfold Builtin.«getset_descriptor.__get__» descrGet; rw [dga_obj]; refine wpAny_bind (wpAny_pure ?_)
  unfold descrGetter descrCheckInstance descrNameAndClass isInstance; simp only [KF.owner_class]; repeat lk
  refine ⟨Code.quiet_builtin _ (by decide +kernel), codeAny_builtin KF.entry_class ?_⟩; unfold Builtin.«object.__class__» shownTypeOf
  repeat lk
  exact h
theorem xc_class {Q : Option Value → Shared → Prop} (X : K.In s.heap) (hx : s.heap.get? x = some ox) (hc : ox.cls = .ref D) (hga : findIn K (.ref D) "__getattribute__" = some (some (.builtin "BaseException.__getattribute__"))) (hgt : findIn K (.ref D) "__getattr__" = some none)
    (hcf : findIn K (.ref D) "__class__" = some (some (.builtin "object.__class__"))) (hm : mroIn K D (.type "object") = some true) (hexc : excIn K D [.type "ValueError", .type "Exception", .type "BaseException", .type "object"] "ValueError.__new__" = true)
    (h : Q (some (.ref D)) { s with toks := s.toks + 1 }) : wpAny (model prog w) A (getAttr? (.ref x) "__class__") Q E s := by
  obtain ⟨hh, g, d, t, os⟩ := s
  have L0 : Looks (model prog w) hh (typeOf (.ref x)) (.ref D) := by rw [← hc]; exact (Looks.ld hx).andThen .now
  have L1 := looks_findIn (M := model prog w) X hga
  have L2 := looks_findIn (M := model prog w) X hgt
  have hx2 : (Value.builtin "BaseException.__getattribute__" == Value.builtin "object.__getattribute__") = false := by decide +kernel
  have hx1 : (onTheHeap (Value.ref D) && Value.builtin "BaseException.__getattribute__" == Value.builtin "object.__getattribute__") = false := by rw [hx2]; rfl
  have f3 := PySem.F.attr_ValueError.ga.bind (.ref x)
  unfold getAttr? getAttrBy? getAttrBy
  refine wpAny_bind (wpAny_mkText (wpAny_bind (wpAny_attempt (wpAny_holding (wpAny_bind (L0.at (wpAny_bind (L1.at ?_))))))))
  simp only [hx1, hx2]
  rw [if_neg (by simp)]
  unfold getAttrByItsOwn
  repeat (any_goals (first | assumption | with_reducible refine L2.at ?_ | with_reducible refine L0.at ?_ | with_reducible refine L1.at ?_ | wp_step))
  obtain ⟨bm, N, nm, q, bs, hdct, sn, sub, ab, col, dd, k0, k1, k2, k3, k5, mN, hC, hN, hni, T⟩ := exc_obj X hexc
  refine codeAny_call_builtin PySem.F.attr_ValueError.ga.plain PySem.F.entry_bexc_ga (check_ga hC (by rw [List.contains_cons, T.hasType PySem.F.excBase_ValueError.hasBase]; rfl) hx hc ?_)
  have L3 := looks_findIn (M := model prog w) X hcf
  have f5 : typeOf (.builtin "object.__class__") = pure (.type "getset_descriptor") := by kernel_rfl
  have f6 := PySem.F.slot_gs_get.lookup
  have f7 := PySem.F.slot_gs_set.lookup
  repeat (any_goals (first | assumption | with_reducible refine L3.at ?_ | with_reducible refine L0.at ?_ | wp_step))
  refine xc_get X L0 hm ?_
  exact wpAny_pure (handed_on rfl (wpAny_pure h))
structure XCls (K : Frag) (C : Addr) : Prop where
  exc : excIn K C [.type "ValueError", .type "Exception", .type "BaseException", .type "object"] "ValueError.__new__" = true
  ga : findIn K (.ref C) "__getattribute__" = some (some (.builtin "BaseException.__getattribute__"))
  gt : findIn K (.ref C) "__getattr__" = some none
  cf : findIn K (.ref C) "__class__" = some (some (.builtin "object.__class__"))
  ob : mroIn K C (.type "object") = some true
theorem kitx_exc {e : Addr} (c : XCls K C) : KitX K (.ref e) (.ref C) (fun h => ∃ ox, h.get? e = some ox ∧ ox.cls = .ref C) where
  ty := fun _ _ _ ⟨_, hx, hc⟩ => by rw [← hc]; exact (Looks.ld hx).andThen .now
  it := fun _ _ X _ => by
    obtain ⟨bm, N, nm, q, bs, hdct, sn, sub, ab, col, dd, k0, k1, k2, k3, k5, mN, hC, _⟩ := exc_obj X c.exc
    intro A' Q' E' s' k q
    unfold isType loadHead
    exact wpAny_bind (wpAny_loadPart (k _ _ hC) (wpAny_pure q))
  ne := fun h tp dd its n sl X htp => by
    obtain ⟨bm, N, nm, q, bs, hdct, sn, sub, ab, col, dd, k0, k1, k2, k3, k5, mN, hC, _⟩ := exc_obj X c.exc
    refine Bool.eq_false_iff.mpr fun q => ?_
    have e : C = tp := Value.ref.inj (beq_iff_eq.mp q)
    subst e
    rw [hC] at htp
    exact nomatch congrArg Obj.data (Option.some.inj htp)
  ca := fun X ⟨_, hx, hc⟩ k => xc_class X hx hc c.ga c.gt c.cf c.ob c.exc k
end
section
variable {X : Cx}
theorem call_isinstX {K : Frag} (hK : X.K = K) : CallR X (.builtin "isinstance") (fun xs H Q => ∃ a C c cv b, xs = [.ref a, c] ∧ H a = some (XO C a) ∧ XCls K C ∧ absV cv = some c ∧ kitOne K (.ref C) cv = some b ∧ ((∀ t, cv ≠ .ref t) → ∃ T, cv = .type T) ∧ Q (.bl b) H) := by
  intro pins s σ H xs us Q I rv ⟨a, C, c, cv, b, ex, ha, hc, rc, hk, hT, q⟩
  subst ex hK
  obtain ⟨u1, u2, rfl, r1, r2⟩ := L2.v2 rv
  cases (show u1 = Value.ref a from r1)
  obtain ⟨o, vs, h1, h2, h3⟩ := xo_of I.hok ha
  have e2 : u2 = cv := by
    cases cv with
    | ref t => cases (Option.some.inj rc); exact r2
    | type T => cases (Option.some.inj rc); exact r2
    | _ => obtain ⟨T, z⟩ := hT (fun _ z => nomatch z); cases z
  subst e2
  exact kia_one (kitx_exc hc) I.kIn ⟨o, h1, h2⟩ hk (fun z => nomatch z) fun tk => ⟨.bl b, H, I.tok tk, rfl, q⟩
theorem call_isinstT {K : Frag} (hK : X.K = K) : CallR X (.builtin "isinstance") (fun xs H Q => ∃ (a C t : Addr) (cs : List Addr) (b : Bool), xs = [.ref a, .ref t] ∧ H a = some (XO C a) ∧ XCls K C ∧ H t = some (.tup (cs.map V.ref)) ∧ kitAny K (.ref C) (cs.map Value.ref) = some b ∧ Q (.bl b) H) := by
  intro pins s σ H xs us Q I rv ⟨a, C, t, cs, b, ex, ha, hc, ht, hk, q⟩
  subst ex hK
  obtain ⟨u1, u2, rfl, r1, r2⟩ := L2.v2 rv
  cases (show u1 = Value.ref a from r1)
  cases (show u2 = Value.ref t from r2)
  obtain ⟨o, vs, h1, h2, h3⟩ := xo_of I.hok ha
  obtain ⟨_, its, r, ob, e1, e2, n, e3⟩ := (show ObjOk X.prog X.w H s.heap t (.tup (cs.map V.ref)) from I.hok t _ ht)
  have key : ∀ (cs : List Addr) (its : List Value), Vals (cs.map V.ref) its → its = cs.map Value.ref := by
    intro cs
    induction cs with
    | nil => intro its r; cases r; rfl
    | cons c cs ih =>
      intro its r
      cases r with
      | cons r0 r' =>
        rw [ih _ r']
        cases r0
        rfl
  have ei := key cs its r
  subst ei
  obtain ⟨oc, od, oda, osl⟩ := ob
  cases e2
  cases e3
  exact kia_tup (kitx_exc hc) I.kIn ⟨o, h1, h2⟩ e1 hk (fun z => nomatch z) fun tk => ⟨.bl b, H, I.tok tk, rfl, q⟩
end
end L2
-- MOD ExW2
namespace L2
open PySem PySem.Spec PyProof.Rows
theorem Fun.okX {P : Program} {w : World} {K : PySem.W.Frag} {mg : Str → Option Value} {base : Heap} {CX : CXT} {x qual : Str} {st : Stmt} {f : Addr} {fd : FuncData} {N ps : List Str} {k : Nat} {sp : Sp} (F : Fun K x qual st f fd) (S : FnScope N ps (defScope st)) (len : ∀ vs H Q E, sp vs H Q E → vs.length = ps.length)
    (hbody : ∀ (cdv : Value) (A : Around) (outer : List Env) (s : Shared) (H : Hp) (vs : List V) (Q : VK) (E : XK), Room k (A.deeper (envOfC qual (defScope st) s.heap.objs.size f cdv)) → sp vs H Q E →
      ∃ t, PSs (cxOf CX P w K mg base N qual (defScope st) f cdv A outer s H E) (defBody st) t ∧ t { nx := fun _ H' => Q .non H', rt := Q } (start N vs) H) : FnOk P w K mg base CX (k + 1) f fd ps sp := by
  obtain ⟨oc, od, kV, doc, pm, an, cdv, ct, osl, rfl, lk, hcd⟩ := F.ex
  exact fn_of lk hcd S len fun A outer s H vs Q E hr hsp => hbody cdv A outer s H vs Q E hr hsp
namespace W
noncomputable def ps_raise := by have h := @L2.ps_raise; rw [ePS, ePA] at h; exact @h
noncomputable def ps_try := by have h := @L2.ps_try; rw [ePS, ePSs] at h; exact @h
noncomputable def Fun.okX := by have h := @L2.Fun.okX; rw [ePSs] at h; exact @h
end W
end L2
-- MOD Exh
/-! A statement whose comprehension has names of its own that are the def's too: those are forgotten. -/
namespace L2
open PySem PySem.Spec PyProof.Rows
section
variable {X : Cx} {pins : List (Addr × Obj)} {σ : St} {H : Hp} {s : Shared} {N' : List Str} {is : List Nat} {st : Stmt} {t : TS}
end
theorem FnOk.calm {P : Program} {w : World} {K : PySem.W.Frag} {mg : Str → Option Value} {base : Heap} {CX : CXT} {k : Nat} {f : Addr} {fd : FuncData} {ps : List Str} {sp : Sp} (hC : Calm CX) (F : FnOk P w K mg base CX k f fd ps sp) : FnOk P w K mg base CX0 k f fd ps (fun vs H Q E => sp vs H Q fun _ _ _ => False) :=
  ⟨fun vs H Q E h => F.len vs H Q _ h, fun A outer s H args us vs Q E hr he hb hv h => by
    have := F.run A outer s H args us vs Q (fun _ _ _ => False) hr he hb hv h
    refine codeAny_mono this fun r s' h' => ?_
    cases r with
    | ok c =>
      cases c with
      | ret u => exact h'
      | _ => exact h'
    | error e => exact hC _ _ _ _ _ h'⟩
namespace W
end W
end L2
-- MOD ExL
/-! Lambdas that know names of their def: made there, called by a callee. -/
namespace L2
open PySem PySem.Spec PyProof.Rows
/-! ### the table of a def that makes lambdas of one name -/
structure TabM (H : Hp) (P : Addr) (q : Str) : Prop where
  ex : ∃ ps : Array Value, H P = some (.tbl ps) ∧ TriplesOk ps.toList ∧ ∀ (pos : Pos) (v : Value), codeAmong pos ps.toList = some v → ∃ a, v = .ref a ∧ H a = some (CodeO a q)
theorem TabM.ne {H : Hp} {P : Addr} {q : Str} (T : TabM H P q) {a : Addr} {o : HO} (e : H a = some o) (h : ∀ ps, o ≠ .tbl ps) : a ≠ P := by
  rintro rfl
  obtain ⟨ps, z, _⟩ := T.ex
  rw [e] at z
  exact h _ (Option.some.inj z)
theorem TabM.same {H H' : Hp} {P : Addr} {q : Str} (T : TabM H P q) (k : Same H H') : TabM H' P q := by
  obtain ⟨ps, z, t, c⟩ := T.ex
  exact ⟨ps, k _ _ z, t, fun pos v e => let ⟨a, e1, e2⟩ := c pos v e; ⟨a, e1, k _ _ e2⟩⟩
theorem TabM.but {H H' : Hp} {P P' : Addr} {q : Str} (T : TabM H P q) (hn : P ≠ P') (h' : ∃ ps, H P' = some (.tbl ps)) (k : GrownBut P' H H') : TabM H' P q := by
  obtain ⟨ps, z, t, c⟩ := T.ex
  refine ⟨ps, k _ _ z hn, t, fun pos v e => ?_⟩
  obtain ⟨a, e1, e2⟩ := c pos v e
  refine ⟨a, e1, k _ _ e2 ?_⟩
  rintro rfl
  obtain ⟨ps', h'⟩ := h'
  rw [e2] at h'
  cases h'
theorem TabM.upd {H : Hp} {P : Addr} {q : Str} {p : Addr} {u o : HO} (T : TabM H P q) (hp : H p = some u) (h1 : ∀ ps, u ≠ .tbl ps) (h2 : ∀ f, u ≠ .ext f) : TabM (L2.upd H p o) P q := by
  have n1 := T.ne hp h1
  obtain ⟨ps, z, t, c⟩ := T.ex
  refine ⟨ps, by rw [upd_ne (Ne.symm n1)]; exact z, t, fun pos v e => ?_⟩
  obtain ⟨a, e1, e2⟩ := c pos v e
  refine ⟨a, e1, ?_⟩
  rw [upd_ne ?_]
  · exact e2
  · rintro rfl
    rw [hp] at e2
    exact h2 _ (Option.some.inj e2)
theorem codeAmong_app {pos p : Pos} {c v : Value} : ∀ (l : List Value), TriplesOk l → codeAmong pos (l ++ [rawInt p.line, rawInt p.col, c]) = some v → codeAmong pos l = some v ∨ v = c
  | [], _, h => by
    simp only [List.nil_append, codeAmong, rawInt] at h
    split at h
    · exact .inr (Option.some.inj h).symm
    · cases h
  | .int a t :: .int b u :: x :: r, ok, h => by
    simp only [List.cons_append, codeAmong] at h ⊢
    split at h
    · rename_i hc
      rw [if_pos hc]
      exact .inl h
    · rename_i hc
      rw [if_neg hc]
      exact codeAmong_app r ok h

/-! ### a lambda, its closure's cells -/
structure LamAt (f c' : Addr) (q : Str) (params : Arguments) (body : Expr) (scope : Scope) (cl : List (Str × Addr)) (N : List Str) (ws : List V) (h : Heap) : Prop where
  fn : ∃ o pm ctv, h.get? f = some o ∧ o.data = .func (PySem.W.kla_fn "<lambda>" q params body scope cl pm (.ref c') ctv)
  val : ∀ (i : Nat) (x : Str) (v : V), N[i]? = some x → ws[i]? = some v → ∃ c u, cl.lookup x = some c ∧ RelV v u ∧ h.IsCell c (some u)
  cel : ∀ x c, cl.lookup x = some c → ∃ v, h.IsCell c v
  inj : ∀ x y c, cl.lookup x = some c → cl.lookup y = some c → x = y
  has : ∀ x, scope.names.lookup x = some .free → ∃ c, cl.lookup x = some c
  len : ws.length = N.length
noncomputable def FreeL (H : Hp) (f : Addr) (cl : List (Str × Addr)) : Prop := H f = none ∧ ∀ x c, cl.lookup x = some c → H c = none
section
variable {f c' : Addr} {q : Str} {params : Arguments} {body : Expr} {scope : Scope} {cl : List (Str × Addr)} {N : List Str} {ws : List V} {h h' : Heap} {H : Hp}
theorem LamAt.later (L : LamAt f c' q params body scope cl N ws h) (fr : FreeL H f cl) (k : ∀ b o, h.get? b = some o → H b = none → ∃ sl, h'.get? b = some { o with slots := sl }) : LamAt f c' q params body scope cl N ws h' := by
  refine ⟨?_, fun i x v e1 e2 => ?_, fun x c e => ?_, L.inj, L.has, L.len⟩
  · obtain ⟨o, pm, ctv, e, d⟩ := L.fn
    obtain ⟨sl, e'⟩ := k _ _ e fr.1
    exact ⟨_, pm, ctv, e', d⟩
  · obtain ⟨c, u, e3, r, o, ho, hd⟩ := L.val i x v e1 e2
    obtain ⟨sl, e'⟩ := k _ _ ho (fr.2 _ _ e3)
    exact ⟨c, u, e3, r, _, e', hd⟩
  · obtain ⟨v, o, ho, hd⟩ := L.cel x c e
    obtain ⟨sl, e'⟩ := k _ _ ho (fr.2 _ _ e)
    exact ⟨v, _, e', hd⟩
end
structure LScope (N : List Str) (sc : Scope) : Prop where
  loc : ∀ x ∈ N, sc.names.lookup x ≠ some .local
  kind : sc.kind = .function
  co : sc.isCoroutine = false
  gen : sc.isGenerator = false
  cell : ∀ y ∈ sc.names, y.2 ≠ .cell
noncomputable def cxL (CX : CXT) (P : Program) (w : World) (K : PySem.W.Frag) (mg : Str → Option Value) (base : Heap) (N : List Str) (qual : Str) (scope : Scope) (f : Addr) (cd : Value) (cl : List (Str × Addr)) (A : Around) (outer : List Env) (s : Shared) (H : Hp) (E : XK) : Cx where
  prog := P
  w := w
  K := K
  mg := mg
  base := base
  A := A.deeper (PySem.W.envX qual scope s.heap.objs.size f cd cl)
  N := N
  s₀ := s
  H₀ := H
  env := PySem.W.envX qual scope s.heap.objs.size f cd cl
  outer := outer
  stack := PySem.W.envX qual scope s.heap.objs.size f cd cl :: outer
  ex := []
  calm := true
  fn := fun _ => false
  pn := []
  xe := fun e s' => wpAny (model P w) (A.deeper (PySem.W.envX qual scope s.heap.objs.size f cd cl)) (leaving (PySem.W.envX qual scope s.heap.objs.size f cd cl) e) (fun _ s'' => CX outer H s E e s'') (fun e' s'' => CX outer H s E e' s'') s'
noncomputable def LamOk (P : Program) (w : World) (K : PySem.W.Frag) (mg : Str → Option Value) (base : Heap) (CX : CXT) (k : Nat) (f c' : Addr) (q : Str) (params : Arguments) (body : Expr) (scope : Scope) (cl : List (Str × Addr)) (N : List Str) (ws : List V) (sp : Hp → VK → XK → Prop) : Prop :=
  ∀ (A : Around) (outer : List Env) (s : Shared) (H : Hp) (Q : VK) (E : XK), Room k A → Env0 P w K mg base A outer s H → LamAt f c' q params body scope cl N ws s.heap → FreeL H f cl → s.heap.CodeRec (.ref c') q → sp H Q E →
    codeAny (model P w) A (.call (.ref f) ⟨[], []⟩) (CR CX outer P w H s Q E) s
section
variable {CX : CXT} {P : Program} {w : World} {K : PySem.W.Frag} {mg : Str → Option Value} {base : Heap} {k : Nat} {f c' : Addr} {q : Str} {params : Arguments} {body : Expr} {scope : Scope} {cl : List (Str × Addr)} {N : List Str} {ws : List V}
theorem lam_of {sp : Hp → VK → XK → Prop} (S : LScope N scope) (hb : ∀ pm ctv, bindArgs (PySem.W.kla_fn "<lambda>" q params body scope cl pm (.ref c') ctv) ⟨[], []⟩ = pure [])
    (hbody : ∀ (A : Around) (outer : List Env) (s : Shared) (H : Hp) (Q : VK) (E : XK), Room k (A.deeper (PySem.W.envX q scope s.heap.objs.size f (.ref c') cl)) → sp H Q E →
      ∃ t, PE (cxL CX P w K mg base N q scope f (.ref c') cl A outer s H E) body t ∧ t (ws.map some) H Q) :
    LamOk P w K mg base CX (k + 1) f c' q params body scope cl N ws sp := by
  intro A outer s H Q E hr e0 L fr hc h
  obtain ⟨o, pm, ctv, ho, hd⟩ := L.fn
  have lim : s.heap.NoLimit := e0.mod.nolimit.keeps fun b o e => (e0.bs b o e).1
  refine PySem.W.kla_callFunE hr.depth ho hd S.co S.gen rfl hc ?_
  rw [hb]
  refine wpAny_pure (wpAny_newFunctionEnv S.cell (fun y hy => by cases hy) (fun h1 hns hsb => ?_) S.kind)
  have kk : Kept s.heap h1 := fun b o e => (hsb.2 b (Nat.ne_of_lt (Heap.lt_size e))).trans (Heap.get?_push_of_some _ e)
  refine ⟨lim.keeps kk, ?_⟩
  show codeAny _ _ (.expr body (PySem.W.envX q scope s.heap.objs.size f (.ref c') cl)) _ _
  refine PySem.W.kla_codeExpr ?_
  obtain ⟨t, ht, hq⟩ := hbody A outer s H Q E (hr.deeper _) h
  have noA : ∀ b : Addr, b ∉ ([] : List Addr) := fun b z => by cases z
  have ce : ∀ {c : Addr} {v : Option Value}, s.heap.IsCell c v → h1.IsCell c v := fun ⟨o, e, d⟩ => ⟨o, kk _ _ e, d⟩
  have I : Inv (cxL CX P w K mg base N q scope f (.ref c') cl A outer s H E) [] (ws.map some) H { s with heap := h1, toks := s.toks + ([] : List (Str × Value)).length } := by
    refine ⟨⟨e0.mod, S.kind, rfl, rfl, Nat.le_refl _, L.inj, fun x hx => ?_, fun x c z => Bool.noConfusion (show false = true from z), fun _ => hr.hd, Around.frames_deeper e0.frames, .inr ⟨rfl, rfl⟩, fun b z => absurd z (noA b), e0.bs, e0.bsz, fun b _ _ => noA b, fun b z => absurd z (noA b), e0.funs, e0.frf⟩,
      rfl, e0.bare, Un.kept kk, ⟨_, hns, fun i x v e1 e2 e3 => ?_⟩, fun x c e => ?_, e0.hok.fresh (Nat.le_refl _), fun x c e => fr.2 x c e, fun p hp => absurd (show p ∈ ([] : List (Addr × Obj)) from hp) (by simp), e0.hok.kept kk, ?_⟩
    · have hx' : scope.names.lookup x = some .cell ∨ scope.names.lookup x = some .free := hx
      rcases hx' with z | z
      · exact absurd rfl (S.cell _ (PySem.mem_of_lookup z))
      · exact L.has x z
    · have e2' : ws[i]? = some v := by
        rw [List.getElem?_map] at e2
        cases z : ws[i]? with
        | none => rw [z] at e2; cases e2
        | some y => rw [z] at e2; cases e2; rfl
      obtain ⟨c, u, h1', r, hcell⟩ := L.val i x v e1 e2'
      refine ⟨u, r, .inr ⟨?_, c, h1', ce hcell⟩⟩
      rcases e3 with z | z | z
      · exact absurd z (S.loc x (List.mem_of_getElem? e1))
      · exact .inl z
      · exact .inr z
    · obtain ⟨v, z⟩ := L.cel x c e
      exact ⟨v, ce z⟩
    · show (ws.map some).length = N.length
      rw [List.length_map]
      exact L.len
  exact wpAny_mono (ht [] _ _ H _ I hq) (fun u s' ⟨v, H', J, rv, z⟩ => ⟨v, H', J.os, J.bare, J.base, J.hok, rv, z⟩) fun e s' hs => hs
theorem pass_onL {A : Around} {outer : List Env} {s : Shared} {H : Hp} {E : XK} : Passes (CXM P w) (cxL (CXM P w) P w K mg base N q scope f (.ref c') cl A outer s H E) (fun _ => E) := fun pins σ H1 s1 u s2 I c => by
  obtain ⟨e, C, H', rfl, I', he, tr, q⟩ := I.cx c
  exact leave_cx I' rfl rfl rfl he (.inr (tr.imp fun T n => I.back rfl n)) q
end
/-! ### a def that is called where something is known of the heap -/
structure FnOkS (Ψ : Heap → Prop) (P : Program) (w : World) (K : PySem.W.Frag) (mg : Str → Option Value) (base : Heap) (CX : CXT) (k : Nat) (f : Addr) (fd : FuncData) (ps : List Str) (sp : Sp) : Prop where
  len : ∀ vs H Q E, sp vs H Q E → vs.length = ps.length
  run : ∀ (A : Around) (outer : List Env) (s : Shared) (H : Hp) (args : Args) (us : List Value) (vs : List V) (Q : VK) (E : XK), Room k A → Env0 P w K mg base A outer s H → Ψ s.heap → BindsTo s fd args (ps.zip us) → Vals vs us → sp vs H Q E →
    codeAny (model P w) A (.call (.ref f) args) (CR CX outer P w H s Q E) s
theorem Fun.okS {Ψ : Heap → Prop} {P : Program} {w : World} {K : PySem.W.Frag} {mg : Str → Option Value} {base : Heap} {CX : CXT} {x qual : Str} {st : Stmt} {f : Addr} {fd : FuncData} {N ps : List Str} {k : Nat} {sp : Sp} (F : Fun K x qual st f fd) (S : FnScope N ps (defScope st)) (len : ∀ vs H Q E, sp vs H Q E → vs.length = ps.length)
    (hbody : ∀ (cdv : Value) (A : Around) (outer : List Env) (s : Shared) (H : Hp) (vs : List V) (Q : VK) (E : XK), Ψ s.heap → Room k (A.deeper (envOfC qual (defScope st) s.heap.objs.size f cdv)) → sp vs H Q E →
      ∃ t, PSs (cxOf CX P w K mg base N qual (defScope st) f cdv A outer s H E) (defBody st) t ∧ t { nx := fun _ H' => Q .non H', rt := Q } (start N vs) H) : FnOkS Ψ P w K mg base CX (k + 1) f fd ps sp := by
  refine ⟨len, fun A outer s H args us vs Q E hr e0 hΨ hb r hsp => ?_⟩
  obtain ⟨oc, od, kV, doc, pm, an, cdv, ct, osl, rfl, lk, hcd⟩ := F.ex
  have hl := len _ _ _ _ hsp
  have ks : ∀ b o, base.get? b = some o → s.heap.get? b = some o := fun b o e => (e0.bs b o e).1
  have KX : K.In s.heap := e0.mod.kin.keeps ks
  refine codeAny_call_function hr.depth (KX _ _ lk) rfl S.co S.gen rfl (PySem.W.codeRec_of KX hcd) (hb _ _ _ _ (wpAny_newFunctionEnv_cells S.kind (fun y hy => ?_) fun env he s1 x => ?_))
  · rcases S.par y.1 (List.of_mem_zip (show (y.1, y.2) ∈ _ from hy)).1 with z | z
    · exact .inl z
    · exact .inr ⟨z, PySem.W.cellsFrom_some _ _ _ (.inl z)⟩
  · subst he
    obtain ⟨t, ht, hq⟩ := hbody cdv A outer s H vs Q E hΨ (hr.deeper _) hsp
    refine ⟨(e0.mod.nolimit.keeps ks).keeps x.toInCall.keep, codeAny_func (wpAny_mono (ht [] s1 (start N vs) H _ (inv_start S hr.hd e0 hl r x) hq) (fun fl s' hs => ?_) fun e s' hs => hs)⟩
    cases fl with
    | ret u => obtain ⟨v, σ', H', J, rv, z⟩ := hs; exact ⟨v, H', J.os, J.bare, J.base, J.hok, rv, z⟩
    | next => obtain ⟨σ', H', J, z⟩ := hs; exact ⟨.non, H', J.os, J.bare, J.base, J.hok, rfl, z⟩
    | brk => obtain ⟨_, _, _, z⟩ := hs; exact False.elim z
    | cont => obtain ⟨_, _, _, z⟩ := hs; exact False.elim z

section
variable {X : Cx} {CX : CXT} {k : Nat} {f c' : Addr} {q x : Str} {params : Arguments} {body : Expr} {scope : Scope} {cl : List (Str × Addr)} {N : List Str} {ws : List V} {sp : Hp → VK → XK → Prop} {E : St → XK} {i : Nat} {p pos : Pos}
theorem pe_ask (F : LamOk X.prog X.w X.K X.mg X.base CX k f c' q params body scope cl N ws sp) (hr : Room k X.A) (hp : Passes CX X E) (L0 : LamAt f c' q params body scope cl N ws X.s₀.heap) (fr0 : FreeL X.H₀ f cl) (hx : X.ex = []) (hN : X.N[i]? = some x) (hv : Vis X.env.scope x)
    (hd : (x == ("__debug__" : Str)) = false := by decide) (hcd : (x == ("__classdict__" : Str)) = false := by decide) :
    PE X (.Call (.Name x p) [] [] pos) (fun σ H Q => σ[i]? = some (some (.ref f)) ∧ H c' = some (CodeO c' q) ∧ sp H Q (E σ)) := by
  intro pins s σ H Q I ⟨hσ, hc, h⟩
  have nx : ∀ b, b ∉ X.ex := fun b z => by rw [hx] at z; cases z
  refine wpAny_Call_Name_kw (thn (pe_var (pos := p) hN hv hd hcd pins s σ H (fun v H' => v = .ref f ∧ H' = H) I ⟨_, hσ, rfl, rfl⟩) fun u s1 ⟨v, H', I1, rv, ev, eH⟩ => ?_)
  subst ev eH
  cases (show u = Value.ref f from rv)
  have L := L0.later fr0 fun b o e n => I1.base.any e n (nx b)
  have fr : FreeL H' f cl := by
    refine ⟨?_, fun y c e => ?_⟩
    · obtain ⟨o, _, _, e, _⟩ := L0.fn
      exact I1.base.free _ _ e fr0.1 (nx _)
    · obtain ⟨_, o, e', _⟩ := L0.cel y c e
      exact I1.base.free _ _ e' (fr0.2 _ _ e) (nx _)
  have hrec : s1.heap.CodeRec (.ref c') q := (show ObjOk X.prog X.w H' s1.heap c' (CodeO c' q) from I1.hok c' _ hc).1
  have fa : PySem.W.FnAt f s1.heap := by
    obtain ⟨⟨oc, od, dt, sl⟩, pm, ctv, e, d⟩ := L.fn
    cases (show dt = _ from d)
    exact ⟨_, _, _, _, e⟩
  refine PySem.W.callWith_F0 fa (wpAny_call (codeAny_mono (F X.A X.stack s1 H' Q (E σ) hr I1.env0 L fr hrec h) fun r s' hq => ?_))
  cases r with
  | error e => exact hp pins σ H' s1 e s' I1 hq
  | ok fl =>
    cases fl with
    | ret u => exact I1.after hq
    | next => exact False.elim hq
    | brk => exact False.elim hq
    | cont => exact False.elim hq
end
/-! ### making one, and handing it to a def -/
section
variable {X : Cx} {pins : List (Addr × Obj)} {σ : St} {H : Hp} {s : Shared} {A : Around} {E : Value → Shared → Prop}
theorem lam_madeM {params : Arguments} {body : Expr} {scope : Scope} {pos : Pos} {c P : Addr} {q : Str} {cl : List (Str × Addr)} {Q : Value → Shared → Prop} (I : Inv X pins σ H s) (T : LamTxt X.K X.mg X.base c P) (hcode : X.env.code = .ref c) (hq : X.env.qual ++ "<lambda>" = q)
    (hcl : closureFor scope X.env = pure cl) (hdef : defaultsOf params X.env = ([], [])) (W : TabM H P q)
    (h : ∀ (H' : Hp) (s' : Shared) (f c' : Addr) (pm ctv : Value), Inv X pins σ H' s' → s'.heap.get? f = some (PySem.W.kla_obj "<lambda>" q params body scope cl pm c' ctv) → H' f = none → H' c' = some (CodeO c' q) → TabM H' P q → GrownBut P H H' → Q (.ref f) s') :
    wpAny (model X.prog X.w) A (eval (.Lambda params body scope pos) X.env) Q E s := by
  subst hq
  refine PySem.W.kla_eval hdef ?_
  obtain ⟨bm, ob, e1, e3, e4, e2, e5, e6, e7⟩ := T.blt
  obtain ⟨ps, z, tri, cod⟩ := W.ex
  have hbP : bm ≠ P := by
    rintro rfl
    have := (I.bs _ _ e2).2
    rw [this] at z; cases z
  have hb : s.heap.BuiltinsAt X.mg P := ⟨bm, ob, e1, e3, e4, hbP, I.bk _ _ e2, e5, e6, e7⟩
  have hg := I.mod.glob.keeps I.bk
  have C := PySem.W.codeHd_of_K I.kIn T.hd
  have tab : s.heap.get? P = some (PySem.W.tabObj ps) := I.hok P _ z
  have hgP : mainGlobals ≠ P := by
    rintro rfl
    obtain ⟨o, es, ep, ho, hd, _⟩ := hg
    rw [tab] at ho; cases ho; cases hd
  cases ha : codeAmong pos ps.toList with
  | none =>
    refine PySem.W.kla_makeFunction hcl I.ok.glob hg hcode C tab tri ha hgP hb fun c' ctv h' tk hx hge hlt hrec htb => ?_
    have fc : H c' = none := I.hok.fresh hge
    have nP : c' ≠ P := Ne.symm (ne_of_none z fc)
    let H' : Hp := upd (upd H P (.tbl (ps ++ #[rawInt pos.line, rawInt pos.col, .ref c']))) c' (CodeO c' (X.env.qual ++ "<lambda>"))
    have hP' : H' P = some (.tbl (ps ++ #[rawInt pos.line, rawInt pos.col, .ref c'])) := by show upd _ _ _ _ = _; rw [upd_ne (Ne.symm nP), upd_same]
    have hc' : H' c' = some (CodeO c' (X.env.qual ++ "<lambda>")) := upd_same
    have gr : ∀ b o, H b = some o → b ≠ P → H' b = some o := fun b o e nb => by
      show upd _ _ _ _ = _
      rw [upd_ne (ne_of_none e fc), upd_ne nb]; exact e
    have I1 : Inv X pins σ H' { s with heap := h', toks := tk } := by
      refine I.step (g' := s.gens) (d' := s.drawn) (ch := []) (fun _ m => nomatch m) (fun b o _ _ _ e n => hx b o (Ne.symm (ne_of_none z n)) e) (fun b o _ _ _ e n => ⟨o.slots, hx b o (Ne.symm (ne_of_none z n)) e⟩) (fun b o _ e n => ?_) (fun b o _ e => ?_)
        (fun b xs e => gr b _ e fun k => by subst k; rw [z] at e; cases e) (fun b o u e => gr b _ e fun k => by subst k; rw [z] at e; cases e) (fun b ps' e => ?_) (fun m hm => ?_) (fun b u e => ?_) I.bare
      · show upd _ _ _ _ = _
        rw [upd_ne (Nat.ne_of_lt (Nat.lt_of_lt_of_le (Heap.lt_size e) hge)), upd_ne (Ne.symm (ne_of_none z n))]; exact n
      · by_cases k : b = P
        · subst k; exact ⟨_, htb⟩
        · exact ⟨o, hx b o k e⟩
      · by_cases k : b = P
        · subst k
          rw [z] at e; cases e
          exact ⟨_, hP'⟩
        · exact ⟨#[], by rw [gr b _ e k]; simp⟩
      · exact hm.extBut hx fun k => by have := I.free; rw [k, z] at this; cases this
      · by_cases k1 : b = c'
        · subst k1
          rw [hc'] at e; cases e
          obtain ⟨_, o, _, _, e', ho, _⟩ := id hrec
          cases e'
          exact ⟨hrec, ⟨o, ho⟩, rec_stays⟩
        · by_cases k2 : b = P
          · subst k2
            rw [hP'] at e; cases e
            exact htb
          · have e' : H b = some u := by
              have e2 : upd (upd H P _) c' _ b = some u := e
              rwa [upd_ne k1, upd_ne k2] at e2
            refine (I.hok b u e').stay (fun d v hd' r => hx d v ?_ r) (fun d r => gr d _ r ?_) fun d xs r => gr d _ r ?_
            · rcases hd' with k | k
              · rw [k]; exact k2
              · rintro rfl; rw [z] at k; cases k
            · rintro rfl; rw [z] at r; cases r
            · rintro rfl; rw [z] at r; cases r
    have I2 : Inv X pins σ H' { s with heap := h'.push _, toks := tk } := I1.kept (t' := tk) (h' := h'.push (PySem.W.kla_obj "<lambda>" (X.env.qual ++ "<lambda>") params body scope cl ((X.mg "__name__").getD .none) c' ctv)) fun b u e => Heap.get?_push_of_some _ e
    refine h H' _ h'.objs.size c' ((X.mg "__name__").getD .none) ctv I2 (Heap.get?_push_size _ rfl) (I1.hok.fresh (Nat.le_refl _)) hc' ⟨_, hP', ?_, fun pos' v e => ?_⟩ gr
    · rw [Array.toList_append]
      exact TriplesOk_snoc _ _ _ _ tri
    · rw [Array.toList_append] at e
      rcases codeAmong_app _ tri e with e | e
      · obtain ⟨a, e1, e2⟩ := cod pos' v e
        refine ⟨a, e1, gr _ _ e2 ?_⟩
        rintro rfl
        rw [z] at e2; cases e2
      · exact ⟨c', e, hc'⟩
  | some cv =>
    obtain ⟨c', rfl, y⟩ := cod pos cv ha
    refine PySem.W.kla_makeFunctionHit (cv := .ref c') hcl I.ok.glob hg hcode C tab tri ha hb fun ctv h' tk kk sz => ?_
    have I1 : Inv X pins σ H { s with heap := h', toks := tk } := I.kept (t' := tk) (h' := h') kk
    have I2 : Inv X pins σ H { s with heap := h'.push _, toks := tk } := I1.kept (t' := tk) (h' := h'.push (PySem.W.kla_obj "<lambda>" (X.env.qual ++ "<lambda>") params body scope cl ((X.mg "__name__").getD .none) c' ctv)) fun b u e => Heap.get?_push_of_some _ e
    exact h H _ h'.objs.size c' ((X.mg "__name__").getD .none) ctv I2 (Heap.get?_push_size _ rfl) (I1.hok.fresh (Nat.le_refl _)) y W fun b o e _ => e
end
noncomputable def tLam (sp : Addr → Addr → List (Str × Addr) → List V → Sp) (P : Addr) (q : Str) (ix : List Nat) (E : St → XK) : TE := fun σ H Q => ∃ ws : List V, ix.map (fun j => (σ[j]?).join) = ws.map some ∧ TabM H P q ∧
  ∀ (f c' : Addr) (cl : List (Str × Addr)) (H1 : Hp), TabM H1 P q → GrownBut P H H1 → H1 c' = some (CodeO c' q) → FreeL H1 f cl → sp f c' cl ws [.ref f] H1 Q (E σ)
section
variable {X : Cx} {CX : CXT} {k : Nat} {fw c P : Addr} {fd : FuncData} {q x y : Str} {params : Arguments} {body : Expr} {scope : Scope} {N : List Str} {ix : List Nat} {sp : Addr → Addr → List (Str × Addr) → List V → Sp} {E : St → XK} {p lpos pos : Pos}
theorem pe_lam (F : ∀ f c' cl ws, FnOkS (LamAt f c' q params body scope cl N ws) X.prog X.w X.K X.mg X.base CX k fw fd [y] (sp f c' cl ws)) (hr : Room k X.A) (hg : Gl X x) (hm : X.mg x = some (.ref fw)) (hk : PySem.W.keepIn X.K (.ref fw) = true) (hb : Binds X.K fd [y] []) (hx : Passes CX X E)
    (T : LamTxt X.K X.mg X.base c P) (hcode : X.env.code = .ref c) (hq : X.env.qual ++ "<lambda>" = q) (hcl : closureFor scope X.env = pure X.env.cells) (hdef : defaultsOf params X.env = ([], []))
    (hix : ix.map (fun j => X.N[j]?) = N.map some) (hcell : ∀ z ∈ N, X.env.scope.names.lookup z = some .cell) (hfree : ∀ z, scope.names.lookup z = some .free → z ∈ N)
    (hdb : (x == ("__debug__" : Str)) = false := by decide) (he : starEach [Expr.Lambda params body scope lpos] X.env = [(false, eval (.Lambda params body scope lpos) X.env)] := by rfl) :
    PE X (.Call (.Name x p) [.Lambda params body scope lpos] [] pos) (tLam sp P q ix E) := by
  intro pins s σ H Q I ⟨ws, hws, W, h⟩
  refine wpAny_Call_Name_kw (ld_glob I hg hm ?_ hdb)
  refine PySem.W.callWith_K (h₀ := X.base) I.ok.mod.kin hk ?_ he rfl
  rw [he]
  show wpAny _ _ (spliced ((false, eval (.Lambda params body scope lpos) X.env) :: [])) _ _ s
  refine Calls.spliced_cons (lam_madeM I T hcode hq hcl hdef W fun H1 s1 f c' pm ctv I1 ho hf hc W1 gr => Calls.spliced_nil ⟨I1.kIn, ?_⟩)
  have l1 : ix.length = N.length := by simpa using congrArg List.length hix
  have l2 : ix.length = ws.length := by simpa using congrArg List.length hws
  have L : LamAt f c' q params body scope X.env.cells N ws s1.heap := by
    refine ⟨⟨_, pm, ctv, ho, rfl⟩, fun i z v e1 e2 => ?_, I1.cell, I1.ok.inj, fun z e => I1.ok.has z (.inl (hcell z (hfree z e))), by omega⟩
    have il : i < ix.length := by rw [l1]; exact (List.getElem?_eq_some_iff.mp e1).1
    obtain ⟨j, hj⟩ : ∃ j, ix[i]? = some j := ⟨_, List.getElem?_eq_getElem il⟩
    have a1 : X.N[j]? = some z := by
      have := congrArg (fun l => l[i]?) hix
      simp only [List.getElem?_map, hj, e1, Option.map_some] at this
      exact Option.some.inj this
    have a2 : σ[j]? = some (some v) := by
      have := congrArg (fun l => l[i]?) hws
      simp only [List.getElem?_map, hj, e2, Option.map_some] at this
      have := Option.some.inj this
      cases y : σ[j]? with
      | none => rw [y] at this; cases this
      | some w => rw [y] at this; rw [show w = some v from this]
    have kc := hcell z (List.mem_of_getElem? e1)
    obtain ⟨m, hn, hl⟩ := I1.loc
    obtain ⟨u, r, lk⟩ := hl j z v a1 a2 (.inr (.inl kc))
    rcases lk with ⟨k1, _⟩ | ⟨_, c0, h1, h2⟩
    · have k1' : X.env.scope.names.lookup z = some .local := k1
      rw [kc] at k1'; cases k1'
    · exact ⟨c0, u, h1, r, h2⟩
  have hsp := h f c' X.env.cells H1 W1 gr hc ⟨hf, I1.freeC⟩
  refine wpAny_call (codeAny_mono ((F f c' X.env.cells ws).run X.A X.stack s1 H1 ⟨[.ref f], []⟩ [.ref f] [.ref f] Q (E σ) hr I1.env0 L (hb s1 [.ref f] I1.kIn rfl) (.cons rfl .nil) hsp) fun r s' hq' => ?_)
  cases r with
  | error e => exact hx pins σ H1 s1 e s' I1 hq'
  | ok fl =>
    cases fl with
    | ret u => exact I1.after hq'
    | next => exact False.elim hq'
    | brk => exact False.elim hq'
    | cont => exact False.elim hq'
end
theorem FunL.okX {P : Program} {w : World} {K : PySem.W.Frag} {mg : Str → Option Value} {base : Heap} {CX : CXT} {x qual : Str} {st : Stmt} {f c : Addr} {fd : FuncData} {N ps : List Str} {k : Nat} {sp : Sp} (F : FunL K x qual st f fd c) (S : FnScope N ps (defScope st)) (len : ∀ vs H Q E, sp vs H Q E → vs.length = ps.length)
    (hbody : ∀ (A : Around) (outer : List Env) (s : Shared) (H : Hp) (vs : List V) (Q : VK) (E : XK), Room k (A.deeper (envOfC qual (defScope st) s.heap.objs.size f (.ref c))) → sp vs H Q E →
      ∃ t, PSs (cxOf CX P w K mg base N qual (defScope st) f (.ref c) A outer s H E) (defBody st) t ∧ t { nx := fun _ H' => Q .non H', rt := Q } (start N vs) H) : FnOk P w K mg base CX (k + 1) f fd ps sp := by
  obtain ⟨oc, od, kV, doc, pm, an, ct, osl, rfl, lk, hcd⟩ := F.ex
  exact fn_of lk hcd S len fun A outer s H vs Q E hr hsp => hbody A outer s H vs Q E hr hsp
theorem LamOk.mono {P : Program} {w : World} {K : PySem.W.Frag} {mg : Str → Option Value} {base : Heap} {CX : CXT} {j k : Nat} {f c' : Addr} {q : Str} {params : Arguments} {body : Expr} {scope : Scope} {cl : List (Str × Addr)} {N : List Str} {ws : List V} {sp : Hp → VK → XK → Prop} (F : LamOk P w K mg base CX j f c' q params body scope cl N ws sp) (h : j ≤ k) :
    LamOk P w K mg base CX k f c' q params body scope cl N ws sp := fun A outer s H Q E hr => F A outer s H Q E (hr.mono h)
namespace W
noncomputable def FunL.okX := by have h := @L2.FunL.okX; rw [ePSs] at h; exact @h
noncomputable def lam_of := by have h := @L2.lam_of; rw [ePE] at h; exact @h
noncomputable def Fun.okS := by have h := @L2.Fun.okS; rw [ePSs] at h; exact @h
noncomputable def pe_ask := by have h := @L2.pe_ask; rw [ePE] at h; exact @h
noncomputable def pe_lam := by have h := @L2.pe_lam; rw [ePE] at h; exact @h
end W
end L2
-- MOD ExM
/-! Lists, tuples and dicts are in no list of texts. -/
namespace PySem.SeqAt
open AutoSeq1 (wpAny_loadPart')
open MeetsSeq
theorem str_declines_dict (b : Str) (u : Tok) (l : Addr) (c : Value) (es : Array DictEntry) (n : Nat) (dd : Option Addr) (sl : Array (Option Value)) :
    Meets (Builtin.«str.__eq__» ⟨[.str b u, .ref l], []⟩) (fun _ R s => s.heap.get? l = some { cls := c, dict := dd, data := .dict es n, slots := sl } ∧ R (.ok (.ret .notImplemented)) s) :=
  .of_wp fun prog w A R s h => by obtain ⟨hp, g, d, tk, os⟩ := s; obtain ⟨hl, h⟩ := h; wp_walk using wpAny_loadPart' hl, wpAny_load hl; exact ⟨_, rfl, h⟩
theorem dict_declines_str (l : Addr) (es : Array DictEntry) (n : Nat) (dd : Option Addr) (sl : Array (Option Value)) (b : Str) (u : Tok) :
    Meets (Builtin.«dict.__eq__» ⟨[.ref l, .str b u], []⟩) (fun _ R s => s.heap.get? l = some { cls := .type "dict", dict := dd, data := .dict es n, slots := sl } ∧ R (.ok (.ret .notImplemented)) s) :=
  .of_wp fun prog w A R s h => by obtain ⟨hp, g, d, tk, os⟩ := s; obtain ⟨hl, h⟩ := h; have f1 := F.sub_str_dict; wp_walk using wpAny_loadPart' hl, wpAny_load hl; exact ⟨_, rfl, h⟩
section
variable {A : Around} {s : Shared}
theorem RcAt.str_dict {l : Addr} {o : Obj} {es : Array DictEntry} {n : Nat} (b : Str) (u : Tok) (ho : s.heap.get? l = some o) (hc : o.cls = .type "dict") (hd : o.data = .dict es n) (hu : A.units < cLine) : RcAt A s (.str b u) (.ref l) false := fun prog w E Q h => by
  obtain ⟨cls, dd, data, sl⟩ := o
  simp only at hc hd
  subst hc hd
  exact rc_eq_decline_or (k := false) (typeIs_str s b u) ⟨_, ho, rfl⟩ (by decide) F.sub_dict_str F.slot_str_eq F.slot_dict_eq_refl
    (fun _ hq => call_meets F.slot_str_eq (typeIs_str s b u) F.entry_str_eq (F.args_str_eq_2 _ _) (str_declines_dict b u l (.type "dict") es n dd sl) ⟨ho, hq⟩)
    (fun _ hq => call_meets F.slot_dict_eq_refl ⟨_, ho, rfl⟩ F.entry_dict_eq (F.args_dict_eq_2 _ _) (dict_declines_str l es n dd sl b u) ⟨ho, hq⟩)
    (fun _ hq => wpAny_of_eq (rfl : isSame (.str b u) (.ref l) = pure false) hq) (.inr hu) h
theorem EqAt.str_dict {l : Addr} {o : Obj} {es : Array DictEntry} {n : Nat} (b : Str) (u : Tok) (ho : s.heap.get? l = some o) (hc : o.cls = .type "dict") (hd : o.data = .dict es n) (hu : A.units < cLine) : EqAt A s (.str b u) (.ref l) false := fun prog w E Q h => by
  unfold eqBool
  refine wpAny_holding ?_
  refine wpAny_ite_split (fun hab => absurd (eq_of_beq hab) nofun) (fun _ => ?_)
  exact wpAny_bind (RcAt.str_dict b u ho hc hd hu prog w E _ (wpAny_truthy_bool h))
end
end PySem.SeqAt
namespace L2
open PySem PySem.Spec PyProof.Rows
noncomputable def OddAt (H : Hp) (a : Addr) : Prop := (∃ xs, H a = some (.lst xs)) ∨ (∃ xs, H a = some (.tup xs)) ∨ ∃ kvs, H a = some (.dK kvs)
section
variable {X : Cx} {pins : List (Addr × Obj)} {σ : St} {H : Hp} {s : Shared}
theorem odd_eq {a : Addr} {A : Around} (I : Inv X pins σ H s) (h : OddAt H a) (hu : A.units < cLine) (b : Str) (t : Tok) : SeqAt.EqAt A s (.str b t) (.ref a) false := by
  rcases h with ⟨xs, h⟩ | ⟨xs, h⟩ | ⟨kvs, h⟩
  · obtain ⟨_, its, n, r, e⟩ := (show ObjOk X.prog X.w H s.heap a (.lst xs) from I.hok a _ h)
    exact SeqAt.EqAt.str_list b t ⟨_, e, rfl, n, rfl⟩ hu
  · obtain ⟨_, its, r, e⟩ := (show ObjOk X.prog X.w H s.heap a (.tup xs) from I.hok a _ h)
    exact SeqAt.EqAt.str_tuple b t e hu
  · obtain ⟨_, _, vs, _, o, es, ep, e, c, d, _⟩ := (show ObjOk X.prog X.w H s.heap a (.dK kvs) from I.hok a _ h)
    exact SeqAt.EqAt.str_dict b t e c.1 d hu
theorem op_notIn_odd (hu : X.A.units + 1 < cLine) : OpR X (compareOp .NotIn) (fun x y H Q => ∃ (a p : Addr) (ks : List Str), x = .ref a ∧ y = .ref p ∧ OddAt H a ∧ H p = some (.lst (ks.map V.str)) ∧ Q (.bl true) H) := by
  intro pins s σ H x y u v Q I rx ry ⟨a, p, ks, ex, ey, ha, hp, q⟩
  subst ex ey
  cases (show u = Value.ref a from rx)
  cases (show v = Value.ref p from ry)
  obtain ⟨_, its, n, r, e⟩ := (show ObjOk X.prog X.w H s.heap p (.lst (ks.map V.str)) from I.hok p _ hp)
  refine SeqAt.notIn_listAt (fun _ => false) ⟨_, e, rfl, n, rfl⟩ (fun y hy => ?_) ⟨.bl true, H, I, ?_, q⟩
  · have hy' : y ∈ its := by simpa using hy
    obtain ⟨i, hi, rfl⟩ := List.getElem_of_mem hy'
    have l := r.length
    obtain ⟨x, hx⟩ : ∃ x, (ks.map V.str)[i]? = some x := ⟨_, List.getElem?_eq_getElem (by omega)⟩
    obtain ⟨w', hw, rw'⟩ := r.get hx
    rw [List.getElem?_eq_getElem hi] at hw
    cases hw
    rw [List.getElem?_map] at hx
    cases z : ks[i]? with
    | none => rw [z] at hx; cases hx
    | some k =>
      rw [z] at hx
      cases hx
      obtain ⟨t, e2⟩ := (show ∃ t, its[i] = Value.str k t from rw')
      rw [e2]
      exact odd_eq I ha (by show X.A.units + 1 < cLine; exact hu) k t
  · have z : (its.toArray.any fun _ => false) = false := by
      rw [Bool.eq_false_iff]
      intro h
      simp at h
    rw [z]
    rfl
end
end L2
-- MOD ExN
/-! The head of a law whose defs make lambdas: the tables of their places are tracked from the beginning. -/
namespace L2
open PySem PySem.Spec PyProof.Rows
noncomputable def OnlyTs (ts : List Addr) (H : Hp) : Prop := (∀ T ∈ ts, H T = some (.tbl #[])) ∧ ∀ b, b ∉ ts → H b = none ∨ ∃ o xs, H b = some (.frz o (.lst xs))
theorem law_callTs {P : Program} {w : World} {K : PySem.W.Frag} {mg mb : Str → Option Value} {CX : CXT} {k : Nat} {fa a : Addr} {ts : List Addr} {fd : FuncData} {x : Str} {sp : Sp} {s₁ : Shared} {vs : List Value} {ns : List Int}
    (KX : K.In s₁.heap) (hns : s₁.heap.Ns mainGlobals mg) (hb : s₁.heap.Ns builtinsNs mb) (hbb : ∀ x : Str, x ≠ "__name__" → mb x = bootBuiltins x) (hlim : s₁.heap.NoLimit) (hg : s₁.gens = #[]) (hBl : BltAt mg s₁.heap) (hT : ∀ T ∈ ts, s₁.heap.get? T = some (PySem.W.tabObj #[])) (hKT : ∀ T ∈ ts, K.lookup T = none) (hCd : ∀ T ∈ ts, ∃ c, PySem.W.codeHdIn K c T = true)
    (ha : s₁.heap.get? a = some { cls := .type "list", data := .seq vs.toArray }) (hi : IntsAre vs ns) (hl : ns.length ≤ sizeLine) (hr : Room k callerA)
    (F : ∀ base : Heap, K.In base → base.Ns mainGlobals mg → BltAt mg base → FnOk P w K mg base CX k fa fd [x] sp) (hbind : ∀ (s : Shared) (u : Value), BindsTo s fd ⟨[u], []⟩ [(x, u)])
    (hsp : ∀ H : Hp, OnlyTs ts H → SqL K H a (ns.map V.int) → sp [.ref a] H (fun v _ => v = .bl true) fun _ _ _ => False)
    (hCX : ∀ H e s', CX [] H s₁ (fun _ _ _ => False) e s' → False) :
    codeAny (model P w) callerA (.call (.ref fa) ⟨[.ref a], []⟩) (fun r s' => r = .ok (.ret (.bool true)) ∧ OldK s₁.heap s'.heap ∧ s'.os = s₁.os ∧ AllBare s'.gens) s₁ := by
  have rv := vals_ints hi
  have lenV := hi.length
  have aT : a ∉ ts := fun h => by
    have := hT a h
    rw [ha] at this; cases this
  have core : ∀ H : Hp, OnlyTs ts H → SqL K H a (ns.map V.int) → HOk P w H s₁.heap → (∀ b, H b ≠ none → b = a ∨ b ∈ ts) → (H a ≠ none → K.lookup a = none) →
      codeAny (model P w) callerA (.call (.ref fa) ⟨[.ref a], []⟩) (fun r s' => r = .ok (.ret (.bool true)) ∧ OldK s₁.heap s'.heap ∧ s'.os = s₁.os ∧ AllBare s'.gens) s₁ := by
    intro H hO hS hok hA hK
    have base_of : ∀ {b : Addr} {o : Obj}, s₁.heap.get? b = some o → H b = none → (hidT s₁.heap H).get? b = some o := fun e n => hidT_get e n
    have noA : ∀ {b : Addr} {o : Obj} {es : Array DictEntry} {ep : Nat}, s₁.heap.get? b = some o → o.data = .dict es ep → H b = none := fun {b o es ep} e d => by
      cases q : H b with
      | none => rfl
      | some u =>
        rcases hA b (by rw [q]; simp) with e' | e'
        · subst e'
          rw [ha] at e; cases e
          have d' : Data.seq vs.toArray _ = Data.dict es ep := d
          cases d'
        · rw [hT b e'] at e; cases e
          cases d
    have nsK : ∀ {b : Addr} {m : Str → Option Value}, s₁.heap.Ns b m → (hidT s₁.heap H).Ns b m := fun {b m} ⟨o, es, ep, e, d, r⟩ => ⟨o, es, ep, base_of e (noA e d), d, r⟩
    have hKb : K.In (hidT s₁.heap H) := fun b o e => base_of (KX b o e) (by
      cases q : H b with
      | none => rfl
      | some u =>
        rcases hA b (by rw [q]; simp) with e' | e'
        · subst e'
          rw [hK (by rw [q]; simp)] at e; cases e
        · rw [hKT b e'] at e; cases e)
    have hBl2 : BltAt mg (hidT s₁.heap H) := by
      obtain ⟨bm, ob, e1, e2, e3, e4, e5, e6, e7⟩ := hBl
      refine ⟨bm, ob, e1, e2, e3, base_of e4 ?_, e5, e6, e7⟩
      cases q : H bm with
      | none => rfl
      | some u =>
        rcases hA bm (by rw [q]; simp) with e' | e'
        · subst e'
          rw [ha] at e4; cases e4
          exact absurd (show Value.type "list" = Value.type "module" from e5) (by decide)
        · rw [hT bm e'] at e4; cases e4
          exact absurd (show Value.none = Value.type "module" from e5) (by decide)
    have hM : Mod K mg (hidT s₁.heap H) := ⟨hKb, nsK hns, ⟨mb, nsK hb, hbb⟩, let ⟨mc, h1, h2⟩ := hlim; ⟨mc, nsK h1, h2⟩⟩
    have e0 : Env0 P w K mg (hidT s₁.heap H) callerA [] s₁ H := ⟨rfl, hM, fun b o e => of_hidT e, Nat.le_of_eq (hidT_size _ _), trivial, fun b hb => absurd (show b ∈ ([] : List Addr) from hb) (by simp), hok, .of_eq hg⟩
    refine codeAny_mono ((F _ hKb (nsK hns) hBl2).run callerA [] s₁ H ⟨[.ref a], []⟩ [.ref a] [.ref a] _ _ hr e0 (hbind s₁ (.ref a)) (.cons rfl .nil) (hsp H hO hS)) fun r s' h => ?_
    cases r with
    | error e => exact (hCX H e s' h).elim
    | ok fl =>
      cases fl with
      | next => exact False.elim h
      | brk => exact False.elim h
      | cont => exact False.elim h
      | ret u =>
        obtain ⟨v, H', os, bare, un, hok', r', q⟩ := h
        have q' : v = .bl true := q
        subst q'
        obtain rfl : u = Value.bool true := r'
        have keep : ∀ b o, b ∉ ts → s₁.heap.get? b = some o → s'.heap.get? b = some o := fun b o nb e => by
          cases q : H b with
          | none => exact un.keep b o e q (by intro z; exact absurd (show b ∈ ([] : List Addr) from z) (by simp)) (by simp)
          | some u =>
            rcases hO.2 b nb with z | ⟨ob, xs, z⟩
            · rw [q] at z; cases z
            · have z2 := un.frzs b ob _ z
              obtain ⟨e1, _⟩ := hok b _ z
              obtain ⟨e2, _⟩ := hok' b _ z2
              rw [e] at e1; cases e1
              exact e2
        have gT : ∀ T ∈ ts, ∃ more, s'.heap.get? T = some { cls := .none, data := .fields (#[] ++ more) } := fun T hm => by
          obtain ⟨more, eT⟩ := un.tbls T _ (hO.1 T hm)
          exact ⟨more, hok' T _ eT⟩
        refine ⟨rfl, ⟨fun b o e => ?_, fun b o e => ?_⟩, os, bare⟩
        · by_cases nb : b ∈ ts
          · obtain ⟨more, g⟩ := gT b nb
            rw [hT b nb] at e; cases e
            obtain ⟨c, hc⟩ := hCd b nb
            obtain ⟨oc, vsc, _, _, _, _, _, _, _, g1, g2, g3, g4, _⟩ := PySem.W.codeHd_of_K KX hc
            exact .inr (.inl ⟨⟨c, oc, vsc, g1, g2, g3, g4⟩, rfl, #[], more, rfl, g⟩)
          · exact .inl (keep b o nb e)
        · by_cases nb : b ∈ ts
          · obtain ⟨more, g⟩ := gT b nb
            exact ⟨_, g⟩
          · exact ⟨o, keep b o nb e⟩
  cases hk : K.lookup a with
  | some o =>
    have e := KX a o hk
    rw [ha] at e
    cases e
    refine core (fun b => if b ∈ ts then some (.tbl #[]) else none) ⟨fun T hm => if_pos hm, fun b nb => .inl (if_neg nb)⟩ (.inr ⟨_, vs.toArray, _, hk, rfl, rfl, rfl, by rw [List.size_toArray, lenV]; exact hl, by simpa using rv⟩) (fun b u z => ?_) (fun b z => ?_) fun z => absurd (if_neg aT) z
    · by_cases nb : b ∈ ts
      · have z' := (if_pos nb).symm.trans z
        cases z'
        exact hT b nb
      · have z' := (if_neg nb).symm.trans z
        cases z'
    · by_cases nb : b ∈ ts
      · exact .inr nb
      · exact absurd (if_neg nb) z
  | none =>
    refine core (fun b => if b ∈ ts then some (.tbl #[]) else if b = a then some (.frz { cls := .type "list", data := .seq vs.toArray } (.lst (ns.map V.int))) else none) ⟨fun T hm => if_pos hm, fun b nb => ?_⟩ (.inl (.inr ⟨{ cls := .type "list", data := .seq vs.toArray }, ?_⟩)) (fun b u z => ?_) (fun b z => ?_) fun _ => hk
    · by_cases hb : b = a
      · exact .inr ⟨_, _, (if_neg nb).trans (if_pos hb)⟩
      · exact .inl ((if_neg nb).trans (if_neg hb))
    · exact (if_neg aT).trans (if_pos rfl)
    · by_cases nb : b ∈ ts
      · have z' := (if_pos nb).symm.trans z
        cases z'
        exact hT b nb
      · have z' := (if_neg nb).symm.trans z
        by_cases hb : b = a
        · have z2 := (if_pos hb).symm.trans z'
          cases z2
          subst hb
          exact ⟨ha, by rw [List.length_map]; exact hl, vs, _, rv, ha⟩
        · have z2 := (if_neg hb).symm.trans z'
          cases z2
    · by_cases nb : b ∈ ts
      · exact .inr nb
      · by_cases hb : b = a
        · exact .inl hb
        · exact absurd ((if_neg nb).trans (if_neg hb)) z
end L2
-- MOD K7A
namespace My
open PySem L2
noncomputable def top (i : Nat) : Stmt := PySem.Challenge.pw_cometorest_k07_kinds_by_name.main.body.getD i (.Pass ⟨0, 0, 0, 0⟩)
noncomputable abbrev sIsName : Stmt := top 11
noncomputable abbrev sUnlike : Stmt := top 12
noncomputable abbrev sPair : Stmt := top 13
noncomputable abbrev sFields : Stmt := top 14
noncomputable abbrev sCount : Stmt := top 15
noncomputable abbrev sInit : Stmt := inClass (top 16) 0
noncomputable abbrev sAreKinds : Stmt := top 17
noncomputable abbrev sPlaced : Stmt := top 18
noncomputable abbrev sInitKs : Stmt := inClass (top 19) 0
noncomputable abbrev sOrder : Stmt := inClass (top 19) 1
noncomputable abbrev sOf : Stmt := inClass (top 19) 2
noncomputable abbrev sOwned : Stmt := inClass (top 19) 3
noncomputable abbrev sMixed : Stmt := top 22
noncomputable abbrev sDigits : Stmt := top 23
noncomputable abbrev sNext : Stmt := top 24
noncomputable abbrev sSign : Stmt := top 25
noncomputable abbrev sNames : Stmt := top 26
noncomputable abbrev sLFields : Stmt := top 27
noncomputable abbrev sSpecs : Stmt := top 28
noncomputable abbrev sTurned : Stmt := top 29
noncomputable abbrev sMade : Stmt := top 30
noncomputable abbrev sWord : Stmt := top 31
noncomputable abbrev sRight : Stmt := top 32
noncomputable abbrev sLaw : Stmt := top 33
noncomputable def letters : Str := "abcdefghijklmnopqrstuvwxyz"
structure Tops (K : PySem.W.Frag) (mg : Str → Option Value) : Prop where
  isinst : mg "isinstance" = none
  len : mg "len" = none
  all : mg "all" = none
  set : mg "set" = none
  range : mg "range" = none
  str : mg "str" = none
  list : mg "list" = none
  tuple : mg "tuple" = none
  zip : mg "zip" = none
  dict : mg "dict" = none
  min : mg "min" = none
  sorted : mg "sorted" = none
  enum : mg "enumerate" = none
  int : mg "int" = none
  lets : ∃ t, mg "LETTERS" = some (.str letters t)
  most : ∃ t, mg "MOST_LETTERS" = some (.int 8 t)
  mostS : ∃ t, mg "MOST_STATES" = some (.int 8 t)
noncomputable def charB (c : Nat) : Bool := decide (c ∈ letters.cps.toList)
noncomputable def nameB (x : Str) : Bool := decide (1 ≤ x.length) && decide (x.length ≤ 8) && x.cps.toList.all charB
noncomputable def spIsName (K : PySem.W.Frag) : Sp := fun vs H Q _ => (∃ x, vs = [.str x] ∧ x.length ≤ 1000 ∧ ∀ H', Same H H' → Q (.bl (nameB x)) H') ∨
  ∃ v t, vs = [v] ∧ TyOf K H v t ∧ PySem.W.kitOne K t (.type "str") = some false ∧ Q (.bl false) H
section
variable {P : Program} {w : World} {K : PySem.W.Frag} {mg : Str → Option Value} {base : Heap} {CX : CXT}
theorem scIN : FnScope ["thing"] ["thing"] (defScope sIsName) := ⟨rfl, rfl, rfl, by decide +kernel, rfl, by decide +kernel, by decide +kernel⟩
theorem ok_isName {f : Addr} {fd : FuncData} (F : Fun K "is_name" "is_name" sIsName f fd) (T : Tops K mg) : FnOk P w K mg base CX 1 f fd ["thing"] (spIsName K) := by
  refine F.okC scIN (fun vs H Q E h => ?_) (fun cdv A outer s H vs Q E hr h => ?_)
  · rcases h with ⟨x, rfl, _⟩ | ⟨v, t, rfl, _⟩ <;> rfl
  · obtain ⟨tl, hlets⟩ := T.lets
    obtain ⟨tm, hmost⟩ := T.most
    refine ⟨_, pss_cons (ps_if (pt_not (pt_val (pe_callB call_isinst rfl T.isinst PyProof.Rows.boot_isinstance (pa_cons (pv 0) (pa_cons (pe_bltn (v := .ty "str") rfl T.str PyProof.Rows.boot_str rfl) pa_nil))))) (pss_one (ps_ret pe_bl)) pss_nil)
      (pss_one (ps_ret (pe_and (pe_chain op_le op_le pe_int (pe_callB call_len_str rfl T.len PySem.boot_len (pa_cons (pv 0) pa_nil)) (pe_glob (v := .int 8) rfl hmost ⟨_, rfl⟩))
        (pe_one (pe_callB (call_all rfl) rfl T.all PyProof.Rows.boot_all (pa_cons (pe_comp (T := ["sign"]) rfl ScOk.auto (pi_str (pv 0)) (fun _ _ _ _ => pg_name (i := 1) (by decide +kernel : (["thing", "sign"] : List Str).Nodup) rfl (Or.inl rfl)) (fun _ _ _ _ => pf_nil)
          (fun _ _ _ _ => pe_cmpR op_in_str (pv 1) (pe_glob (v := .str letters) rfl hlets ⟨_, rfl⟩) rfl)) pa_nil)))))), ?_⟩
    rcases h with ⟨x, rfl, hx, k⟩ | ⟨v, t, rfl, ty, hk, k⟩
    · refine ⟨_, rfl, _, _, _, _, _, rfl, .str x, rfl, rfl, _, rfl, iteF ?_⟩
      have hz : x.length ≤ sizeLine := Nat.le_of_lt (small1000 hx)
      refine ⟨_, rfl, x, rfl, hz, _, _, rfl, rfl, _, rfl, ?_⟩
      refine ite2 (fun h1 => ?_) (fun h1 => ?_)
      · refine ⟨_, _, rfl, rfl, _, rfl, ?_⟩
        refine ite2 (fun h2 => ?_) (fun h2 => ?_)
        · refine ⟨_, rfl, x, rfl, comp_chars (fun _ => true) (fun c => .bl (charB c)) hz (fun c Ry Rn q _ => ?_) (fun d hd => ?_)⟩
          · refine iteT (B := Rn H) ⟨_, rfl, _, _, rfl, rfl, ?_⟩
            rw [PySem.StrLaws.found_one]
            exact q rfl
          · refine ⟨d, x.cps.toList.map charB, rfl, SqL.of ?_, ?_⟩
            · rw [upd_same, List.filter_eq_self.mpr (fun _ _ => rfl), List.map_map]
              rfl
            · have e : nameB x = (x.cps.toList.map charB).all id := by
                have a1 : 1 ≤ x.length := by have := of_decide_eq_true h1; omega
                have a2 : x.length ≤ 8 := by have := of_decide_eq_true h2; omega
                unfold nameB
                rw [decide_eq_true a1, decide_eq_true a2, List.all_map]
                rfl
              rw [← e]
              exact k _ (Same.new hd)
        · have a2 : ¬ x.length ≤ 8 := fun z => h2 (decide_eq_true (by omega))
          have e : nameB x = false := by unfold nameB; rw [decide_eq_false a2]; simp
          rw [← e]
          exact k _ (Same.refl _)
      · have a1 : ¬ 1 ≤ x.length := fun z => h1 (decide_eq_true (by omega))
        have e : nameB x = false := by unfold nameB; rw [decide_eq_false a1]; simp
        refine ⟨false, rfl, iteF ?_⟩
        rw [← e]
        exact k _ (Same.refl _)
    · exact ⟨_, rfl, _, _, _, _, _, rfl, ty, rfl, hk, _, rfl, iteT k⟩
end
noncomputable def spMixed : Sp := fun vs H Q _ => ∃ c k : Int, vs = [.int c, .int k] ∧ 0 ≤ k ∧ k ≤ 1000000 ∧ ∀ n : Int, 0 ≤ n → n < 2147483629 → Q (.int n) H
noncomputable def Src (H : Hp) (p : Addr) (k : Int) : Prop := ∃ a c j : Int, H p = some (.lst [.int a, .int c, .int j]) ∧ 0 ≤ j ∧ j ≤ k
noncomputable def spDigits : Sp := fun vs H Q _ => ∃ c : Int, vs = [.int c] ∧ ∀ p H', H p = none → Src H' p 0 → Same H H' → (∀ b, b ≠ p → H' b = H b) → Q (.ref p) H'
noncomputable def spNext : Sp := fun vs H Q _ => ∃ (p : Addr) (m k : Int), vs = [.ref p, .int m] ∧ Src H p k ∧ k ≤ 999998 ∧ 0 < m ∧ m < 2 ^ 64 ∧
  ∀ (r : Int) (H' : Hp), 0 ≤ r → r < m → Src H' p (k + 1) → (∀ b, b ≠ p → H' b = H b) → Q (.int r) H'
section
variable {P : Program} {w : World} {K : PySem.W.Frag} {mg : Str → Option Value} {base : Heap} {CX : CXT}
theorem scMx : FnScope ["_law_cell", "_law_k", "_law_number"] ["_law_cell", "_law_k"] (defScope sMixed) := ⟨rfl, rfl, rfl, by decide +kernel, rfl, by decide +kernel, by decide +kernel⟩
theorem ok_mixed {f : Addr} {fd : FuncData} (F : Fun K "_law_mixed" "_law_mixed" sMixed f fd) : FnOk P w K mg base CX 1 f fd ["_law_cell", "_law_k"] spMixed := by
  refine F.okC scMx (fun vs H Q E h => ?_) (fun cdv A outer s H vs Q E hr h => ?_)
  · obtain ⟨c, k, rfl, _⟩ := h
    rfl
  · obtain ⟨c, k, rfl, h0, h1, q⟩ := h
    refine ⟨_, pss_cons (ps_set (i := 2) scMx.nd rfl (Or.inl rfl) (pe_op op_mod (pe_op op_mul (pe_op op_add (pe_op op_add (pe_op op_mod (pv 0) pe_int) (pe_op op_mul pe_int (pv 1))) pe_int) pe_int) pe_int))
      (pss_cons (ps_set (i := 2) scMx.nd rfl (Or.inl rfl) (pe_op op_mod (pe_op op_mul (pv 2) (pe_op op_add (pe_op op_fdiv (pv 2) pe_int) pe_int)) pe_int))
      (pss_cons (ps_set (i := 2) scMx.nd rfl (Or.inl rfl) (pe_op op_mod (pe_op op_mul (pv 2) (pe_op op_add (pe_op op_add (pe_op op_fdiv (pv 2) pe_int) pe_int) (pv 1))) pe_int))
      (pss_one (ps_ret (pe_op op_mod (pe_op op_mul (pv 2) (pe_op op_add (pe_op op_fdiv (pv 2) pe_int) pe_int)) pe_int))))), ?_⟩
    have M : (0 : Int) < 2147483629 := by decide
    have lo : ∀ z : Int, 0 ≤ z % 2147483629 := fun z => Int.emod_nonneg _ (by decide)
    have hi : ∀ z : Int, z % 2147483629 < 2147483629 := fun z => Int.emod_lt_of_pos _ M
    have cm : ∀ z y : Int, CMul (z % 2147483629) y := fun z y => by have := lo z; have := hi z; exact .inl ⟨by omega, by omega⟩
    refine ⟨_, rfl, _, _, rfl, rfl, M, _, rfl, _, _, rfl, rfl, .inl ⟨by decide, by decide⟩, _, _, rfl, rfl, _, _, rfl, rfl, _, _, rfl, rfl, .inr ⟨by decide, by decide⟩, _, _, rfl, rfl, M, ?_⟩
    refine ⟨_, rfl, _, rfl, _, _, rfl, rfl, ⟨by decide, by decide⟩, _, _, rfl, rfl, _, _, rfl, rfl, cm _ _, _, _, rfl, rfl, M, ?_⟩
    refine ⟨_, rfl, _, rfl, _, _, rfl, rfl, ⟨by decide, by decide⟩, _, _, rfl, rfl, _, rfl, _, _, rfl, rfl, _, _, rfl, rfl, cm _ _, _, _, rfl, rfl, M, ?_⟩
    refine ⟨_, rfl, _, rfl, _, _, rfl, rfl, ⟨by decide, by decide⟩, _, _, rfl, rfl, _, _, rfl, rfl, cm _ _, _, _, rfl, rfl, M, ?_⟩
    exact q _ (lo _) (hi _)
theorem scDg : FnScope ["_law_cell"] ["_law_cell"] (defScope sDigits) := ⟨rfl, rfl, rfl, by decide +kernel, rfl, by decide +kernel, by decide +kernel⟩
theorem ok_digits {f : Addr} {fd : FuncData} (F : Fun K "_law_digits" "_law_digits" sDigits f fd) : FnOk P w K mg base CX 1 f fd ["_law_cell"] spDigits := by
  refine F.okC scDg (fun vs H Q E h => ?_) (fun cdv A outer s H vs Q E hr h => ?_)
  · obtain ⟨c, rfl, _⟩ := h
    rfl
  · obtain ⟨c, rfl, q⟩ := h
    refine ⟨_, pss_one (ps_ret (pe_lst (pa_cons (pe_op op_mul (pe_op op_fdiv (pv 0) pe_int) (pe_op op_sub pe_int (pe_op op_mod (pv 0) pe_int))) (pa_cons (pv 0) (pa_cons pe_int pa_nil))))), ?_⟩
    have a1 : 0 ≤ c % 2 := Int.emod_nonneg _ (by decide)
    have a2 : c % 2 < 2 := Int.emod_lt_of_pos _ (by decide)
    refine ⟨_, rfl, _, _, rfl, rfl, ⟨by decide, by decide⟩, _, rfl, _, _, rfl, rfl, (by show (0 : Int) < 2; decide), _, _, rfl, rfl, _, _, rfl, rfl, .inr ⟨by omega, by omega⟩, _, rfl, (by show 3 ≤ sizeLine; decide), fun p hp => ?_⟩
    exact q p _ hp ⟨_, _, 0, upd_same, by decide, by decide⟩ (Same.new hp) fun b hb => upd_ne hb
theorem scNx : FnScope ["_law_source", "_law_many", "_law_got"] ["_law_source", "_law_many"] (defScope sNext) := ⟨rfl, rfl, rfl, by decide +kernel, rfl, by decide +kernel, by decide +kernel⟩
theorem ok_next {f fm : Addr} {fd fdm : FuncData} (hC : Calm CX) (F : Fun K "_law_next" "_law_next" sNext f fd) (DM : Def K mg "_law_mixed" sMixed ["_law_cell", "_law_k"] fm fdm) : FnOk P w K mg base CX 2 f fd ["_law_source", "_law_many"] spNext := by
  have GM : FnOk P w K mg base CX 1 fm fdm ["_law_cell", "_law_k"] spMixed := ok_mixed DM.fn
  refine F.okC scNx (fun vs H Q E h => ?_) (fun cdv A outer s H vs Q E hr h => ?_)
  · obtain ⟨p, m, k, rfl, _⟩ := h
    rfl
  · obtain ⟨p, m, k, rfl, ⟨a, c, j, hp, j0, j1⟩, hk, m0, m1, q⟩ := h
    refine ⟨_, pss_cons (ps_if (pt_cmpR op_gt (pe_ix ix_list (pv 0) pe_int (fun _ _ => rfl)) pe_int (nomark _))
        (pss_cons (ps_set (i := 2) scNx.nd rfl (Or.inl rfl) (pe_op op_mod (pe_ix ix_list (pv 0) pe_int (fun _ _ => rfl)) (pv 1)))
        (pss_cons (ps_asg (pe_op op_fdivB (pe_ix ix_list (pv 0) pe_int (fun _ _ => rfl)) (pv 1)) (pg_sub (pv 0) pe_int set_list))
        (pss_one (ps_ret (pv 2))))) pss_nil)
      (pss_cons (ps_asg (pe_op op_add (pe_ix ix_list (pv 0) pe_int (fun _ _ => rfl)) pe_int) (pg_sub (pv 0) pe_int set_list))
      (pss_one (ps_ret (pe_op op_mod (pe_call GM hr rfl DM.at_ DM.fn.kp DM.bind .nil (passC hC) (pa_cons (pe_ix ix_list (pv 0) pe_int (fun _ _ => rfl)) (pa_cons (pe_ix ix_list (pv 0) pe_int (fun _ _ => rfl)) pa_nil))) (pv 1))))), ?_⟩
    have S0 : SqL K H p [.int a, .int c, .int j] := SqL.of hp
    refine ⟨_, rfl, p, _, _, _, rfl, rfl, S0, rfl, _, _, rfl, rfl, _, rfl, ?_⟩
    refine ite2 (fun h0 => ?_) (fun h0 => ?_)
    · refine ⟨_, rfl, p, _, _, _, rfl, rfl, S0, rfl, _, rfl, _, _, rfl, rfl, m0, ?_⟩
      refine ⟨_, rfl, p, _, _, _, rfl, rfl, S0, rfl, _, rfl, _, _, rfl, rfl, ⟨m0, m1⟩, ?_⟩
      refine ⟨_, rfl, p, _, _, 0, rfl, rfl, hp, rfl, ?_⟩
      refine ⟨_, rfl, q _ _ (Int.emod_nonneg _ (by omega)) (Int.emod_lt_of_pos _ m0) ⟨_, _, j, upd_same, j0, by omega⟩ fun b hb => upd_ne hb⟩
    · refine ⟨_, rfl, p, _, _, _, rfl, rfl, S0, rfl, _, _, rfl, rfl, ?_⟩
      refine ⟨_, rfl, p, _, _, 2, rfl, rfl, hp, rfl, ?_⟩
      have S1 : SqL K (upd H p (.lst [.int a, .int c, .int (j + 1)])) p [.int a, .int c, .int (j + 1)] := SqL.of upd_same
      refine ⟨_, rfl, p, _, _, _, rfl, rfl, S1, rfl, _, rfl, p, _, _, _, rfl, rfl, S1, rfl, c, j + 1, rfl, by omega, by omega, fun n n0 n1 => ?_⟩
      refine ⟨_, rfl, _, _, rfl, rfl, m0, ?_⟩
      exact q _ _ (Int.emod_nonneg _ (by omega)) (Int.emod_lt_of_pos _ m0) ⟨_, _, j + 1, upd_same, by omega, by omega⟩ fun b hb => upd_ne hb
end
theorem atI_ex {α : Type} (xs : List α) {i : Int} (h0 : 0 ≤ i) (h1 : i < xs.length) : ∃ c, atI xs i = some c ∧ c ∈ xs := by
  have lt : i.toNat < xs.length := by omega
  refine ⟨xs[i.toNat], ?_, List.getElem_mem _⟩
  unfold atI ixN
  rw [if_pos h0, if_pos h1]
  simp [lt]
theorem Src.mono {H : Hp} {p : Addr} {k l : Int} (h : Src H p k) (hl : k ≤ l) : Src H p l := by
  obtain ⟨a, c, j, e, j0, j1⟩ := h
  exact ⟨a, c, j, e, j0, by omega⟩
noncomputable def nameD : PyData → Bool
  | .str x => nameB x
  | _ => false
noncomputable def strsOf : List PyData → List Str
  | .str x :: r => x :: strsOf r
  | _ :: r => strsOf r
  | [] => []
noncomputable def unlikeB (ds : List PyData) : Bool := ds.all nameD && decide (strsOf ds).Nodup
noncomputable def pairB : PyData → Bool
  | .tuple [_, .list vs] => decide (0 < vs.length) && unlikeB vs
  | _ => false
noncomputable def firstD : PyData → PyData
  | .tuple (d :: _) => d
  | _ => .none
noncomputable def fieldsB : PyData → Bool
  | .list ds => ds.all pairB && unlikeB (ds.map firstD)
  | _ => false
noncomputable def spNameD : Sp := fun vs H Q _ => ∃ v d, vs = [v] ∧ Has Any H v d ∧ ∀ H', Same H H' → Q (.bl (nameD d)) H'
noncomputable def spUnlike : Sp := fun vs H Q _ => ∃ v ds, vs = [v] ∧ Has Any H v (.list ds) ∧ ∀ H', Same H H' → Q (.bl (unlikeB ds)) H'
noncomputable def spPair : Sp := fun vs H Q _ => ∃ v d, vs = [v] ∧ Has Any H v d ∧ ∀ H', Same H H' → Q (.bl (pairB d)) H'
noncomputable def spFields : Sp := fun vs H Q _ => ∃ v d, vs = [v] ∧ Has Any H v d ∧ ∀ H', Same H H' → Q (.bl (fieldsB d)) H'
theorem strs_all {G : Addr → Prop} {H : Hp} : ∀ {xs : List V} {ds : List PyData}, HasAll G H xs ds → ds.all nameD = true → xs = (strsOf ds).map V.str ∧ (strsOf ds).length = ds.length
  | _, _, .nil, _ => ⟨rfl, rfl⟩
  | _, _, .cons h t, e => by
    rw [List.all_cons, Bool.and_eq_true] at e
    obtain ⟨e1, e2⟩ := e
    obtain ⟨q1, q2⟩ := strs_all t e2
    cases h with
    | str x _ _ => exact ⟨by rw [q1]; rfl, by rw [strsOf, List.length_cons, List.length_cons, q2]⟩
    | non => cases e1
    | bl b => cases e1
    | int i => cases e1
    | lst _ _ _ _ => cases e1
    | tup _ _ _ _ => cases e1
section
variable {P : Program} {w : World} {K : PySem.W.Frag} {mg : Str → Option Value} {base : Heap} {CX : CXT}
theorem name_imp {vs : List V} {H : Hp} {Q : VK} {E : XK} (h : spNameD vs H Q E) : spIsName K vs H Q E := by
  obtain ⟨v, d, rfl, hd, q⟩ := h
  cases hd with
  | str x hx ho => exact .inl ⟨x, rfl, hx, q⟩
  | non => exact .inr ⟨_, _, rfl, .non, rfl, q _ (Same.refl _)⟩
  | bl b => exact .inr ⟨_, _, rfl, .bl b, rfl, q _ (Same.refl _)⟩
  | int i => exact .inr ⟨_, _, rfl, .int i, rfl, q _ (Same.refl _)⟩
  | lst _ e _ _ => exact .inr ⟨_, _, rfl, .lst e, rfl, q _ (Same.refl _)⟩
  | tup _ e _ _ => exact .inr ⟨_, _, rfl, .tup e, rfl, q _ (Same.refl _)⟩
theorem ok_nameD {f : Addr} {fd : FuncData} (F : Fun K "is_name" "is_name" sIsName f fd) (T : Tops K mg) : FnOk P w K mg base CX 1 f fd ["thing"] spNameD := (ok_isName F T).imp fun _ _ _ _ h => name_imp h
theorem scUl : FnScope ["things"] ["things"] (defScope sUnlike) := ⟨rfl, rfl, rfl, by decide +kernel, rfl, by decide +kernel, by decide +kernel⟩
theorem ok_unlike {f fn : Addr} {fd fdn : FuncData} (hC : Calm CX) (T : Tops K mg) (F : Fun K "are_unlike_names" "are_unlike_names" sUnlike f fd) (DN : Def K mg "is_name" sIsName ["thing"] fn fdn) : FnOk P w K mg base CX 2 f fd ["things"] spUnlike := by
  have GN : FnOk P w K mg base CX 1 fn fdn ["thing"] spNameD := ok_nameD DN.fn T
  refine F.okC scUl (fun vs H Q E h => ?_) (fun cdv A outer s H vs Q E hr h => ?_)
  · obtain ⟨v, ds, rfl, _⟩ := h
    rfl
  · obtain ⟨v, ds, rfl, hd, k⟩ := h
    obtain ⟨a, xs, rfl, _, ha, hz, hx⟩ := hd.list_inv
    have hzl : xs.length ≤ sizeLine := Nat.le_of_lt (small1000 hz)
    refine ⟨_, pss_one (ps_ret (pe_and (pe_callB (call_all rfl) rfl T.all PyProof.Rows.boot_all (pa_cons (pe_comp (T := ["thing"]) rfl ScOk.auto (pi_list (pv 0)) (fun _ _ _ _ => pg_name (i := 1) (by decide +kernel : (["things", "thing"] : List Str).Nodup) rfl (Or.inl rfl)) (fun _ _ _ _ => pf_nil)
        (fun _ _ _ _ => pe_call GN hr rfl DN.at_ DN.fn.kp DN.bind .nil (passC hC) (pa_cons (pv 1) pa_nil))) pa_nil))
      (pe_one (pe_cmpR op_eq (pe_callB call_len_set_strs rfl T.len PySem.boot_len (pa_cons (pe_callTy (call_set_strs rfl) rfl T.set PyProof.Rows.boot_set (pa_cons (pv 0) pa_nil)) pa_nil)) (pe_callB call_len_seq rfl T.len PySem.boot_len (pa_cons (pv 0) pa_nil)) (nomark _))))), ?_⟩
    refine ⟨_, rfl, a, rfl, ⟨xs, SqL.of ha⟩, comp_list (xs := xs) (fun i ys H' => Same H H' ∧ ys = (ds.take i).map fun d => V.bl (nameD d)) ⟨Same.refl _, rfl⟩ (fun i ys H' p => SqL.of (p.1 _ _ ha)) (fun i ys H' hi p => ?_) ?_ ?_⟩
    · rw [p.2, List.length_map]
      have := List.length_take_le i ds
      omega
    · rintro i x ys H' hi ⟨s1, rfl⟩ N hN
      obtain ⟨d, hd', hv⟩ := hx.get hi
      refine pick ?_
      refine ⟨_, rfl, _, d, rfl, hv.mono s1, fun H2 s2 => hN _ _ ⟨s1.trans s2, ?_⟩⟩
      rw [List.take_add_one, hd', List.map_append]
      rfl
    · rintro ys H' ⟨s1, rfl⟩ p hp
      have e : (ds.take xs.length).map (fun d => V.bl (nameD d)) = (ds.map nameD).map V.bl := by
        rw [hx.length, List.take_length, List.map_map]
        rfl
      have s2 : Same H (upd H' p (.lst ((ds.take xs.length).map fun d => V.bl (nameD d)))) := s1.trans (Same.new hp)
      refine ⟨p, ds.map nameD, rfl, SqL.of (by rw [upd_same, e]), _, rfl, ?_⟩
      have ea : (ds.map nameD).all id = ds.all nameD := by rw [List.all_map]; rfl
      rw [ea]
      cases eb : ds.all nameD with
      | false =>
        refine iteF ?_
        have e0 : unlikeB ds = false := by unfold unlikeB; rw [eb]; rfl
        rw [← e0]
        exact k _ s2
      | true =>
        refine iteT ?_
        obtain ⟨q1, q2⟩ := strs_all hx eb
        subst q1
        have ha2 := s2 _ _ ha
        have hz4 : (strsOf ds).length ≤ 4000 := by rw [List.length_map] at hz; omega
        refine ⟨_, rfl, a, strsOf ds, rfl, SqL.of ha2, hz4, fun d hd2 => ?_⟩
        refine ⟨d, strsOf ds, rfl, upd_same, hz4, ?_⟩
        refine ⟨_, rfl, a, _, rfl, .inl (SqL.of ((Same.new hd2) _ _ ha2)), rfl, ?_⟩
        have e1 : decide (V.int ((dl (strsOf ds)).length : Int) = V.int (((strsOf ds).map V.str).length : Int)) = unlikeB ds := by
          unfold unlikeB
          rw [eb, Bool.true_and, ← dl_len_iff, List.length_map]
          by_cases q : (dl (strsOf ds)).length = (strsOf ds).length
          · rw [decide_eq_true q, q]
            simp
          · rw [decide_eq_false q, decide_eq_false]
            intro z
            injection z with z
            omega
        rw [e1]
        exact k _ (s2.trans (Same.new hd2))
end
noncomputable def sizeD : PyData → Nat
  | .tuple [_, .list vs] => vs.length
  | _ => 0
noncomputable def countD (ds : List PyData) : Int := ds.foldl (fun m d => m * (sizeD d : Int)) 1
noncomputable def spCount : Sp := fun vs H Q _ => ∃ v ds, vs = [v] ∧ Has Any H v (.list ds) ∧ ds.all pairB = true ∧ Q (.int (countD ds)) H
theorem pair_inv {G : Addr → Prop} {H : Hp} {v : V} {d : PyData} (h : Has G H v d) (e : pairB d = true) :
    ∃ a x y n l vs ys, v = .ref a ∧ G a ∧ H a = some (.tup [x, y]) ∧ d = .tuple [n, .list vs] ∧ Has G H x n ∧ y = .ref l ∧ G l ∧ H l = some (.lst ys) ∧ ys.length ≤ 1000 ∧ HasAll G H ys vs ∧ 0 < vs.length ∧ unlikeB vs = true := by
  cases h with
  | non => cases e
  | bl b => cases e
  | int i => cases e
  | str x _ _ => cases e
  | lst _ _ _ _ => cases e
  | tup g s z q =>
    cases q with
    | nil => cases e
    | cons h1 q =>
      cases q with
      | nil => cases e
      | cons h2 q =>
        cases q with
        | cons _ _ => cases h2 <;> cases e
        | nil =>
          cases h2 with
          | non => cases e
          | bl b => cases e
          | int i => cases e
          | str x _ _ => cases e
          | tup _ _ _ _ => cases e
          | lst g2 s2 z2 q2 =>
            have e' : (decide _ && unlikeB _) = true := e
            rw [Bool.and_eq_true] at e'
            exact ⟨_, _, _, _, _, _, _, rfl, g, s, rfl, h1, rfl, g2, s2, z2, q2, of_decide_eq_true e'.1, e'.2⟩
section
variable {P : Program} {w : World} {K : PySem.W.Frag} {mg : Str → Option Value} {base : Heap} {CX : CXT}
theorem scPr : FnScope ["thing", "values"] ["thing"] (defScope sPair) := ⟨rfl, rfl, rfl, by decide +kernel, rfl, by decide +kernel, by decide +kernel⟩
theorem ok_pair {f fu fn : Addr} {fd fdu fdn : FuncData} (hC : Calm CX) (T : Tops K mg) (F : Fun K "is_pair_with_values" "is_pair_with_values" sPair f fd) (DN : Def K mg "is_name" sIsName ["thing"] fn fdn)
    (DU : Def K mg "are_unlike_names" sUnlike ["things"] fu fdu) : FnOk P w K mg base CX 3 f fd ["thing"] spPair := by
  have GU : FnOk P w K mg base CX 2 fu fdu ["things"] spUnlike := ok_unlike hC T DU.fn DN
  refine F.okC scPr (fun vs H Q E h => ?_) (fun cdv A outer s H vs Q E hr h => ?_)
  · obtain ⟨v, d, rfl, _⟩ := h
    rfl
  · obtain ⟨v, d, rfl, hd, k⟩ := h
    refine ⟨_, pss_cons (ps_if (PW.pt (pw_or (pt_not (pt_val (pe_callB call_isinst rfl T.isinst PyProof.Rows.boot_isinstance (pa_cons (pv 0) (pa_cons (pe_bltn (v := .ty "tuple") rfl T.tuple PyProof.Rows.boot_tuple rfl) pa_nil)))))
        (pw_or1 (pt_cmpR op_ne (pe_callB call_len_seq rfl T.len PySem.boot_len (pa_cons (pv 0) pa_nil)) pe_int (nomark _))))) (pss_one (ps_ret pe_bl)) pss_nil)
      (pss_cons (ps_set (i := 1) scPr.nd rfl (Or.inl rfl) (pe_ix ix_tup (pv 0) pe_int (fun _ _ => rfl)))
      (pss_one (ps_ret (pe_and (pe_callB call_isinst rfl T.isinst PyProof.Rows.boot_isinstance (pa_cons (pv 1) (pa_cons (pe_bltn (v := .ty "list") rfl T.list PyProof.Rows.boot_list rfl) pa_nil)))
        (pe_and (pe_cmpR op_gt (pe_callB call_len_seq rfl T.len PySem.boot_len (pa_cons (pv 1) pa_nil)) pe_int (nomark _))
          (pe_one (pe_call GU hr rfl DU.at_ DU.fn.kp DU.bind .nil (passC hC) (pa_cons (pv 1) pa_nil)))))))), ?_⟩
    have k0 : pairB d = false → Q (.bl false) H := fun e => by rw [← e]; exact k _ (Same.refl _)
    refine ⟨_, rfl, ?_⟩
    cases hd with
    | non => exact ⟨_, _, _, _, _, rfl, .non, rfl, rfl, _, rfl, iteT (iteT (k0 rfl))⟩
    | bl b => exact ⟨_, _, _, _, _, rfl, (.bl b), rfl, rfl, _, rfl, iteT (iteT (k0 rfl))⟩
    | int i => exact ⟨_, _, _, _, _, rfl, (.int i), rfl, rfl, _, rfl, iteT (iteT (k0 rfl))⟩
    | str x _ _ => exact ⟨_, _, _, _, _, rfl, (.str x), rfl, rfl, _, rfl, iteT (iteT (k0 rfl))⟩
    | lst _ e _ _ => exact ⟨_, _, _, _, _, rfl, (.lst e), rfl, rfl, _, rfl, iteT (iteT (k0 rfl))⟩
    | @tup a xs ds _ e z q =>
      refine ⟨_, _, _, _, _, rfl, .tup e, rfl, rfl, _, rfl, iteF ?_⟩
      refine ⟨_, rfl, a, xs, rfl, .inr (SqT.of e), rfl, _, rfl, ?_⟩
      have hl := q.length
      by_cases h2 : xs.length = 2
      · rw [decide_eq_true (show V.int (xs.length : Int) = V.int 2 by rw [h2]; rfl)]
        refine iteF ?_
        obtain ⟨d0, d1, rfl⟩ : ∃ d0 d1, ds = [d0, d1] := by
          match ds, hl.symm.trans h2 with
          | [d0, d1], _ => exact ⟨d0, d1, rfl⟩
        cases q with
        | @cons x0 _ _ _ q0 q =>
          cases q with
          | @cons x1 _ _ _ q1 q =>
            cases q
            refine ⟨_, rfl, a, _, _, x1, rfl, rfl, SqT.of e, rfl, ?_⟩
            refine ⟨_, rfl, ?_⟩
            cases q1 with
            | non => exact ⟨_, _, _, _, _, rfl, .non, rfl, rfl, _, rfl, iteF (k0 rfl)⟩
            | bl b => exact ⟨_, _, _, _, _, rfl, (.bl b), rfl, rfl, _, rfl, iteF (k0 rfl)⟩
            | int i => exact ⟨_, _, _, _, _, rfl, (.int i), rfl, rfl, _, rfl, iteF (k0 rfl)⟩
            | str x _ _ => exact ⟨_, _, _, _, _, rfl, (.str x), rfl, rfl, _, rfl, iteF (k0 rfl)⟩
            | tup _ e1 _ _ => exact ⟨_, _, _, _, _, rfl, (.tup e1), rfl, rfl, _, rfl, iteF (k0 rfl)⟩
            | @lst l ys vs g1 e1 z1 q1 =>
              refine ⟨_, _, _, _, _, rfl, .lst e1, rfl, rfl, _, rfl, iteT ?_⟩
              refine ⟨_, rfl, l, ys, rfl, .inl (SqL.of e1), _, _, rfl, rfl, _, rfl, ?_⟩
              refine ite2 (fun h0 => ?_) (fun h0 => ?_)
              · refine ⟨_, rfl, _, vs, rfl, .lst g1 e1 z1 q1, fun H' s' => ?_⟩
                have e0 : pairB (.tuple [d0, .list vs]) = unlikeB vs := by
                  show (decide (0 < vs.length) && unlikeB vs) = _
                  rw [decide_eq_true, Bool.true_and]
                  have := q1.length
                  have := of_decide_eq_true h0
                  omega
                rw [← e0]
                exact k _ s'
              · refine k0 ?_
                show (decide (0 < vs.length) && unlikeB vs) = _
                rw [decide_eq_false, Bool.false_and]
                have := q1.length
                intro z0
                exact h0 (decide_eq_true (by omega))
      · rw [decide_eq_false (show ¬ V.int (xs.length : Int) = V.int 2 by intro z0; injection z0 with z0; omega)]
        refine iteT (k0 ?_)
        match ds, hl with
        | [], _ => rfl
        | [_], _ => rfl
        | [_, _], hl => exact absurd hl h2
        | _ :: d1 :: _ :: _, _ => cases d1 <;> rfl
end
theorem all_get {ds : List PyData} {f : PyData → Bool} {i : Nat} {d : PyData} (h : ds.all f = true) (e : ds[i]? = some d) : f d = true := List.all_eq_true.mp h d (List.mem_of_getElem? e)
section
variable {P : Program} {w : World} {K : PySem.W.Frag} {mg : Str → Option Value} {base : Heap} {CX : CXT}
theorem scFd : FnScope ["things"] ["things"] (defScope sFields) := ⟨rfl, rfl, rfl, by decide +kernel, rfl, by decide +kernel, by decide +kernel⟩
theorem ok_fields {f fp fu fn : Addr} {fd fdp fdu fdn : FuncData} (hC : Calm CX) (T : Tops K mg) (F : Fun K "are_fields" "are_fields" sFields f fd) (DN : Def K mg "is_name" sIsName ["thing"] fn fdn)
    (DU : Def K mg "are_unlike_names" sUnlike ["things"] fu fdu) (DP : Def K mg "is_pair_with_values" sPair ["thing"] fp fdp) : FnOk P w K mg base CX 4 f fd ["things"] spFields := by
  have GU : FnOk P w K mg base CX 2 fu fdu ["things"] spUnlike := ok_unlike hC T DU.fn DN
  have GP : FnOk P w K mg base CX 3 fp fdp ["thing"] spPair := ok_pair hC T DP.fn DN DU
  refine F.okC scFd (fun vs H Q E h => ?_) (fun cdv A outer s H vs Q E hr h => ?_)
  · obtain ⟨v, d, rfl, _⟩ := h
    rfl
  · obtain ⟨v, d, rfl, hd, k⟩ := h
    have hr2 := hr.mono (show 2 ≤ 3 by decide)
    refine ⟨_, pss_cons (ps_if (PW.pt (pw_or (pt_not (pt_val (pe_callB call_isinst rfl T.isinst PyProof.Rows.boot_isinstance (pa_cons (pv 0) (pa_cons (pe_bltn (v := .ty "list") rfl T.list PyProof.Rows.boot_list rfl) pa_nil)))))
        (pw_or1 (pt_not (pt_val (pe_callB (call_all rfl) rfl T.all PyProof.Rows.boot_all (pa_cons (pe_comp (T := ["thing"]) rfl ScOk.auto (pi_list (pv 0)) (fun _ _ _ _ => pg_name (i := 1) (by decide +kernel : (["things", "thing"] : List Str).Nodup) rfl (Or.inl rfl)) (fun _ _ _ _ => pf_nil)
        (fun _ _ _ _ => pe_call GP hr rfl DP.at_ DP.fn.kp DP.bind .nil (passC hC) (pa_cons (pv 1) pa_nil))) pa_nil))))))) (pss_one (ps_ret pe_bl)) pss_nil)
      (pss_one (ps_ret (pe_call GU hr2 rfl DU.at_ DU.fn.kp DU.bind .nil (passC hC) (pa_cons (pe_comp (T := ["thing"]) rfl ScOk.auto (pi_list (pv 0)) (fun _ _ _ _ => pg_name (i := 1) (by decide +kernel : (["things", "thing"] : List Str).Nodup) rfl (Or.inl rfl)) (fun _ _ _ _ => pf_nil)
        (fun _ _ _ _ => pe_ix (r := rIxT K) ix_tup (pv 1) pe_int (fun _ _ => rfl))) pa_nil)))), ?_⟩
    have k0 : fieldsB d = false → ∀ H', Same H H' → Q (.bl false) H' := fun e H' s' => by rw [← e]; exact k _ s'
    refine ⟨_, rfl, ?_⟩
    cases hd with
    | non => exact ⟨_, _, _, _, _, rfl, .non, rfl, rfl, _, rfl, iteT (iteT (k0 rfl _ (Same.refl _)))⟩
    | bl b => exact ⟨_, _, _, _, _, rfl, (.bl b), rfl, rfl, _, rfl, iteT (iteT (k0 rfl _ (Same.refl _)))⟩
    | int i => exact ⟨_, _, _, _, _, rfl, (.int i), rfl, rfl, _, rfl, iteT (iteT (k0 rfl _ (Same.refl _)))⟩
    | str x _ _ => exact ⟨_, _, _, _, _, rfl, (.str x), rfl, rfl, _, rfl, iteT (iteT (k0 rfl _ (Same.refl _)))⟩
    | tup _ e _ _ => exact ⟨_, _, _, _, _, rfl, (.tup e), rfl, rfl, _, rfl, iteT (iteT (k0 rfl _ (Same.refl _)))⟩
    | @lst a xs ds _ ha hz hx =>
      refine ⟨_, _, _, _, _, rfl, .lst ha, rfl, rfl, _, rfl, iteF ?_⟩
      refine ⟨_, rfl, a, rfl, ⟨xs, SqL.of ha⟩, comp_list (xs := xs) (fun i ys H' => Same H H' ∧ ys = (ds.take i).map fun d => V.bl (pairB d)) ⟨Same.refl _, rfl⟩ (fun i ys H' p => SqL.of (p.1 _ _ ha)) (fun i ys H' hi p => ?_) ?_ ?_⟩
      · rw [p.2, List.length_map]
        have := List.length_take_le i ds
        have := small1000 hz
        omega
      · rintro i x ys H' hi ⟨s1, rfl⟩ N hN
        obtain ⟨d, hd', hv⟩ := hx.get hi
        refine pick ?_
        refine ⟨_, rfl, _, d, rfl, hv.mono s1, fun H2 s2 => hN _ _ ⟨s1.trans s2, ?_⟩⟩
        rw [List.take_add_one, hd', List.map_append]
        rfl
      · rintro ys H' ⟨s1, rfl⟩ p hp
        have e : (ds.take xs.length).map (fun d => V.bl (pairB d)) = (ds.map pairB).map V.bl := by
          rw [hx.length, List.take_length, List.map_map]
          rfl
        have s2 : Same H (upd H' p (.lst ((ds.take xs.length).map fun d => V.bl (pairB d)))) := s1.trans (Same.new hp)
        refine ⟨p, ds.map pairB, rfl, SqL.of (by rw [upd_same, e]), _, rfl, ?_⟩
        have ea : (ds.map pairB).all id = ds.all pairB := by rw [List.all_map]; rfl
        rw [ea]
        cases eb : ds.all pairB with
        | false =>
          refine iteT (k0 ?_ _ s2)
          show (ds.all pairB && _) = false
          rw [eb]
          rfl
        | true =>
          refine iteF ?_
          have ha2 := s2 _ _ ha
          generalize upd H' p (.lst ((ds.take xs.length).map fun d => V.bl (pairB d))) = H3 at s2 ha2 ⊢
          refine ⟨_, rfl, a, rfl, ⟨xs, SqL.of ha2⟩, comp_list (xs := xs) (fun i ys H' => H' = H3 ∧ HasAll Any H3 ys ((ds.take i).map firstD)) ⟨rfl, .nil⟩ (fun i ys H' p => by rw [p.1]; exact SqL.of ha2) (fun i ys H' hi p => ?_) ?_ ?_⟩
          · have := p.2.length
            rw [List.length_map] at this
            have := List.length_take_le i ds
            have := small1000 hz
            omega
          · rintro i x ys H' hi ⟨rfl, hy⟩ N hN
            obtain ⟨d, hd', hv⟩ := hx.get hi
            obtain ⟨b, x0, y0, n, l, vs, zs, rfl, _, hb, rfl, hn, _⟩ := pair_inv hv (all_get eb hd')
            refine pick ?_
            refine ⟨_, rfl, b, _, _, x0, rfl, rfl, SqT.of (s2 _ _ hb), rfl, hN _ _ ⟨rfl, ?_⟩⟩
            rw [List.take_add_one, hd', List.map_append]
            exact hy.snoc (hn.mono s2)
          · rintro ys H' ⟨rfl, hy⟩ q hq
            have s3 := s2.trans (Same.new (o := .lst ys) hq)
            have hl : ys.length ≤ 1000 := by
              have := hy.length
              rw [List.length_map] at this
              have := List.length_take_le xs.length ds
              omega
            refine ⟨_, ds.map firstD, rfl, .lst trivial upd_same hl ?_, fun H4 s4 => ?_⟩
            · rw [hx.length, List.take_length] at hy
              exact hy.mono (Same.new hq)
            · have e1 : fieldsB (.list ds) = unlikeB (ds.map firstD) := by
                show (ds.all pairB && unlikeB (ds.map firstD)) = _
                rw [eb]
                rfl
              rw [← e1]
              exact k _ (s3.trans s4)
theorem scCt : FnScope ["fields", "many", "field"] ["fields"] (defScope sCount) := ⟨rfl, rfl, rfl, by decide +kernel, rfl, by decide +kernel, by decide +kernel⟩
theorem ok_count {f : Addr} {fd : FuncData} (T : Tops K mg) (F : Fun K "count_states" "count_states" sCount f fd) : FnOk P w K mg base CX 1 f fd ["fields"] spCount := by
  refine F.okC scCt (fun vs H Q E h => ?_) (fun cdv A outer s H vs Q E hr h => ?_)
  · obtain ⟨v, ds, rfl, _⟩ := h
    rfl
  · obtain ⟨v, ds, rfl, hd, eb, k⟩ := h
    obtain ⟨a, xs, rfl, _, ha, hz, hx⟩ := hd.list_inv
    refine ⟨_, pss_cons (ps_set (i := 1) scCt.nd rfl (Or.inl rfl) pe_int)
      (pss_cons (ps_for PassesOwn.never rfl (pi_list (pv 0)) (pg_name (i := 2) scCt.nd rfl (Or.inl rfl))
        (pss_one (ps_set (i := 1) scCt.nd rfl (Or.inl rfl) (pe_op op_mul (pv 1) (pe_callB call_len_seq rfl T.len PySem.boot_len (pa_cons (pe_ix ix_tup (pv 2) pe_int (fun _ _ => rfl)) pa_nil))))))
      (pss_one (ps_ret (pv 1)))), ?_⟩
    refine ⟨_, rfl, a, rfl, ⟨xs, SqL.of ha⟩, for_list (K := K) (a := a) (xs := xs) (fun i σ H2 => ∃ u, σ = [some (.ref a), some (.int (countD (ds.take i))), u] ∧ H2 = H) ⟨none, rfl, rfl⟩ (fun i σ H2 _ ⟨_, _, e⟩ => by rw [e]; exact SqL.of ha) ?_ ?_⟩
    · rintro i x σ H2 hi ⟨u, rfl, rfl⟩
      obtain ⟨d, hd', hv⟩ := hx.get hi
      obtain ⟨b, x0, y0, n, l, vs, zs, rfl, _, hb, rfl, hn, rfl, _, hl, hzl, hvs, _⟩ := pair_inv hv (all_get eb hd')
      refine ⟨_, rfl, _, rfl, b, _, _, _, rfl, rfl, SqT.of hb, rfl, l, zs, rfl, .inl (SqL.of hl), _, _, rfl, rfl, .inr ⟨by omega, by omega⟩, ⟨some (.ref b), ?_, rfl⟩⟩
      have e : countD (ds.take (i + 1)) = countD (ds.take i) * (zs.length : Int) := by
        rw [List.take_add_one, hd']
        unfold countD
        rw [List.foldl_append]
        show _ * ((sizeD (.tuple [n, .list vs]) : Nat) : Int) = _
        rw [hvs.length]
        rfl
      rw [e]
      rfl
    · rintro σ H2 ⟨u, rfl, rfl⟩
      refine ⟨_, rfl, ?_⟩
      rw [hx.length, List.take_length]
      exact k
end
structure FunD (K : PySem.W.Frag) (x qual : Str) (st : Stmt) (dV : Value) (f : Addr) (fd : FuncData) : Prop where
  ex : ∃ (oc : Value) (od : Option Addr) (kV doc pm : Value) (an : Option Addr) (cdv ct : Value) (osl : Array (Option Value)),
    fd = PySem.W.fnOf x qual (defArgs st) (defBody st) (defScope st) dV kV doc pm an cdv ct ∧ K.lookup f = some ⟨oc, od, .func fd, osl⟩ ∧ PySem.W.codeIn K cdv qual = true
theorem FunD.okC {P : Program} {w : World} {K : PySem.W.Frag} {mg : Str → Option Value} {base : Heap} {CX : CXT} {x qual : Str} {st : Stmt} {dV : Value} {f : Addr} {fd : FuncData} {N ps : List Str} {k : Nat} {sp : Sp} (F : FunD K x qual st dV f fd) (S : FnScope N ps (defScope st)) (len : ∀ vs H Q E, sp vs H Q E → vs.length = ps.length)
    (hbody : ∀ (cdv : Value) (A : Around) (outer : List Env) (s : Shared) (H : Hp) (vs : List V) (Q : VK) (E : XK), Room k (A.deeper (PyProof.Rows.envOfC qual (defScope st) s.heap.objs.size f cdv)) → sp vs H Q E →
      ∃ t, PSs (cxOf CX P w K mg base N qual (defScope st) f cdv A outer s H E).nox (defBody st) t ∧ t { nx := fun _ H' => Q .non H', rt := Q } (start N vs) H) : FnOk P w K mg base CX (k + 1) f fd ps sp := by
  obtain ⟨oc, od, kV, doc, pm, an, cdv, ct, osl, rfl, lk, hcd⟩ := F.ex
  refine fn_of lk hcd S len fun A outer s H vs Q E hr hsp => ?_
  obtain ⟨t, h, q⟩ := hbody cdv A outer s H vs Q E hr hsp
  exact ⟨t, h.nox, q⟩
theorem fnf : ¬ (("name" : Str) = "fields") := by decide +kernel
theorem fno : ¬ (("name" : Str) = "owner") := by decide +kernel
theorem ffo : ¬ (("fields" : Str) = "owner") := by decide +kernel
noncomputable def kflds (n f o : V) : List (Str × V) := putF "owner" o (putF "fields" f (putF "name" n []))
theorem kf_name (n f o : V) : (kflds n f o).lookup ("name" : Str) = some n := by
  unfold kflds
  rw [lookup_putF, if_neg fno, lookup_putF, if_neg fnf, lookup_putF, if_pos rfl]
theorem kf_fields (n f o : V) : (kflds n f o).lookup ("fields" : Str) = some f := by
  unfold kflds
  rw [lookup_putF, if_neg ffo, lookup_putF, if_pos rfl]
theorem kf_owner (n f o : V) : (kflds n f o).lookup ("owner" : Str) = some o := by
  unfold kflds
  rw [lookup_putF, if_pos rfl]
structure KCls (K : PySem.W.Frag) (mg : Str → Option Value) (C fI : Addr) : Prop where
  cl : Cls K C
  nN : NoAttr K C "name"
  nF : NoAttr K C "fields"
  nO : NoAttr K C "owner"
  mgC : mg "Kind" = some (.ref C)
  mkd : Mk K C fI
theorem name_any {G G' : Addr → Prop} {H H' : Hp} {v : V} {d : PyData} (h : Has G H v d) (e : nameD d = true) : Has G' H' v d := by
  cases h with
  | str x a b => exact .str x a b
  | non => cases e
  | bl b => cases e
  | int i => cases e
  | lst _ _ _ _ => cases e
  | tup _ _ _ _ => cases e
theorem names_any {G G' : Addr → Prop} {H H' : Hp} : ∀ {xs : List V} {ds : List PyData}, HasAll G H xs ds → ds.all nameD = true → HasAll G' H' xs ds
  | _, _, .nil, _ => .nil
  | _, _, .cons h t, e => by
    rw [List.all_cons, Bool.and_eq_true] at e
    exact .cons (name_any h e.1) (names_any t e.2)
theorem unlike_all {ds : List PyData} (h : unlikeB ds = true) : ds.all nameD = true := by
  have z : (ds.all nameD && decide (strsOf ds).Nodup) = true := h
  rw [Bool.and_eq_true] at z
  exact z.1
noncomputable def ownerD (n : Str) : PyData → Bool
  | .none => true
  | .str o => nameB o && !decide (o = n)
  | _ => false
noncomputable def spInit (C : Addr) : Sp := fun vs H Q _ => ∃ (p dx : Addr) (vf vo : V) (n : Str) (ds : List PyData) (od : PyData), vs = [.ref p, .str n, vf, vo] ∧ H p = some (.ins C dx []) ∧ n.length ≤ 1000 ∧ PyData.strOk n = true ∧ nameB n = true ∧
  Has Any H vf (.list ds) ∧ fieldsB (.list ds) = true ∧ Has Any H vo od ∧ ownerD n od = true ∧ countD ds ≤ 8 ∧
  ∀ (H' : Hp) (l : Addr), H' p = some (.ins C dx (kflds (.str n) (.ref l) vo)) → Has (fun a => H a = none) H' (.ref l) (.list ds) → (∀ b o, H b = some o → b ≠ p → H' b = some o) → Q .non H'
section
variable {P : Program} {w : World} {K : PySem.W.Frag} {mg : Str → Option Value} {base : Heap} {CX : CXT}
theorem scKi : FnScope ["self", "name", "fields", "owner"] ["self", "name", "fields", "owner"] (defScope sInit) := ⟨rfl, rfl, rfl, by decide +kernel, rfl, by decide +kernel, by decide +kernel⟩
theorem k_both {R : Hp → Prop} {H1 : Hp} {B : Prop} (t : ∀ Hx, Same H1 Hx → R Hx) (h : (∀ Hx, Same H1 Hx → R Hx) → B) : B := h t
theorem ok_init {f C ff fc fp fu fn : Addr} {fd fdf fdc fdp fdu fdn : FuncData} {dV : Value} (hC : Calm CX) (T : Tops K mg) (F : FunD K "__init__" "Kind.__init__" sInit dV f fd) (KC : KCls K mg C f) (DN : Def K mg "is_name" sIsName ["thing"] fn fdn)
    (DU : Def K mg "are_unlike_names" sUnlike ["things"] fu fdu) (DP : Def K mg "is_pair_with_values" sPair ["thing"] fp fdp) (DF : Def K mg "are_fields" sFields ["things"] ff fdf) (DC : Def K mg "count_states" sCount ["fields"] fc fdc) :
    FnOk P w K mg base CX 5 f fd ["self", "name", "fields", "owner"] (spInit C) := by
  have GN : FnOk P w K mg base CX 1 fn fdn ["thing"] spNameD := ok_nameD DN.fn T
  have GF : FnOk P w K mg base CX 4 ff fdf ["things"] spFields := ok_fields hC T DF.fn DN DU DP
  have GC : FnOk P w K mg base CX 1 fc fdc ["fields"] spCount := ok_count T DC.fn
  refine F.okC scKi (fun vs H Q E h => ?_) (fun cdv A outer s H vs Q E hr h => ?_)
  · obtain ⟨p, dx, vf, vo, n, ds, od, rfl, _⟩ := h
    rfl
  · obtain ⟨p, dx, vf, vo, n, ds, od, rfl, hp, hn1, hn2, hn3, hf, hfb, ho, hob, hc8, k⟩ := h
    have hr1 := hr.mono (show 1 ≤ 4 by decide)
    obtain ⟨tm, hmost⟩ := T.mostS
    refine ⟨_, pss_cons (ps_if (pt_not (pt_val (pe_call GN hr1 rfl DN.at_ DN.fn.kp DN.bind .nil (passC hC) (pa_cons (pv 1) pa_nil)))) pss_never pss_nil)
      (pss_cons (ps_if (pt_not (pt_val (pe_call GF hr rfl DF.at_ DF.fn.kp DF.bind .nil (passC hC) (pa_cons (pv 2) pa_nil)))) pss_never pss_nil)
      (pss_cons (ps_if (PW.pt (pw_and (pt_cmp (pc_notN (pv 3))) (pw_and1 (PW.pt (pw_or (pt_not (pt_val (pe_call GN hr1 rfl DN.at_ DN.fn.kp DN.bind .nil (passC hC) (pa_cons (pv 3) pa_nil)))) (pw_or1 (pt_cmpR op_eq (pv 3) (pv 1) (nomark _)))))))) pss_never pss_nil)
      (pss_cons (ps_if (pt_cmpR op_gt (pe_call GC hr1 rfl DC.at_ DC.fn.kp DC.bind .nil (passC hC) (pa_cons (pv 2) pa_nil)) (pe_glob (v := .int 8) rfl hmost ⟨_, rfl⟩) (nomark _)) pss_never pss_nil)
      (pss_cons (ps_fld (pv 0) (pv 1) rfl)
      (pss_cons (ps_fld (pv 0) (pe_comp (T := ["field"]) rfl ScOk.auto (pi_list (pv 2)) (fun _ _ _ _ => pg_name (i := 4) (by decide +kernel : (["self", "name", "fields", "owner", "field"] : List Str).Nodup) rfl (Or.inl rfl)) (fun _ _ _ _ => pf_nil)
        (fun _ _ _ _ => pe_tup (pa_cons (pe_ix (r := rIxT K) ix_tup (pv 4) pe_int (fun _ _ => rfl)) (pa_cons (pe_callTy (r := fun xs H Q => ∃ p ys, xs = [.ref p] ∧ (SqL K H p ys ∨ SqT K H p ys) ∧ ∀ l, H l = none → Q (.ref l) (upd H l (.lst ys))) call_list_of rfl T.list PyProof.Rows.boot_list (pa_cons (pe_ix (r := rIxT K) ix_tup (pv 4) pe_int (fun _ _ => rfl)) pa_nil)) pa_nil)))) rfl)
      (pss_one (ps_fld (pv 0) (pv 3) rfl))))))), ?_⟩
    -- the tests
    refine ⟨_, rfl, _, .str n, rfl, .str n hn1 hn2, fun H1 s1 => ⟨_, rfl, ?_⟩⟩
    rw [show nameD (.str n) = true from hn3]
    refine iteF ⟨_, rfl, _, .list ds, rfl, hf.mono s1, fun H2 s2 => ⟨_, rfl, ?_⟩⟩
    rw [hfb]
    have s12 := s1.trans s2
    refine iteF ?_
    have fb : ds.all pairB = true ∧ unlikeB (ds.map firstD) = true := by
      have z : (ds.all pairB && unlikeB (ds.map firstD)) = true := hfb
      rw [Bool.and_eq_true] at z
      exact z
    -- owner
    have sh : vo = V.non ∨ ∃ o, vo = V.str o ∧ o.length ≤ 1000 ∧ PyData.strOk o = true ∧ nameB o = true ∧ ¬ o = n := by
      cases ho with
      | bl b => cases hob
      | int i => cases hob
      | lst _ _ _ _ => cases hob
      | tup _ _ _ _ => cases hob
      | non => exact .inl rfl
      | str o o1 o2 =>
        have z : (nameB o && !decide (o = n)) = true := hob
        rw [Bool.and_eq_true] at z
        exact .inr ⟨o, rfl, o1, o2, z.1, by simpa using z.2⟩
    refine' k_both (H1 := H) _ (fun k2 => _)
    rotate_left 2
    · rcases sh with e | ⟨o, e, o1, o2, e1, e2⟩
      · refine ⟨_, rfl, _, rfl, ?_⟩
        rw [decide_eq_true e]
        exact iteF (iteF (k2 H2 s12))
      · refine ⟨_, rfl, _, rfl, ?_⟩
        rw [decide_eq_false (show ¬ vo = V.non by rw [e]; intro z; cases z)]
        refine iteT ?_
        refine ⟨_, rfl, vo, .str o, rfl, (by rw [e]; exact .str o o1 o2), fun H3 s3 => ⟨_, rfl, ?_⟩⟩
        rw [show nameD (.str o) = true from e1]
        refine iteF ⟨_, rfl, _, rfl, (by rw [e]; rfl), _, rfl, ?_⟩
        rw [decide_eq_false (show ¬ vo = V.str n by rw [e]; intro z; injection z with z; exact e2 z)]
        exact iteF (k2 H3 (s12.trans s3))
    · intro H3 s3
      refine ⟨_, rfl, _, ds, rfl, hf.mono s3, fb.1, _, _, rfl, rfl, _, rfl, ?_⟩
      refine ite2 (fun h => absurd (of_decide_eq_true h) (by omega)) (fun _ => ?_)
      -- self.name = name
      refine ⟨_, rfl, _, rfl, p, C, dx, [], rfl, s3 _ _ hp, KC.cl, KC.nN, (by show 0 < 1000; decide), ?_⟩
      have fr : ∀ (H' : Hp) (o' : HO), (∃ fs, H' p = some (.ins C dx fs)) → ∀ (a : Addr) (o : HO), Any a → isSeq o → H' a = some o → Any a ∧ (upd H' p o') a = some o := by
        rintro H' o' ⟨fs, e⟩ a o _ hs q
        refine ⟨trivial, ?_⟩
        rw [upd_ne]
        · exact q
        · rintro rfl
          rw [e] at q
          cases q
          exact hs
      have hf4 : Has Any (upd H3 p (.ins C dx (putF "name" (.str n) []))) vf (.list ds) := (hf.mono s3).frameS (fr _ _ ⟨_, s3 _ _ hp⟩)
      obtain ⟨a, xs, rfl, _, ha, hz, hx⟩ := hf4.list_inv
      have hp4 : (upd H3 p (.ins C dx (putF "name" (.str n) []))) p = some (.ins C dx (putF "name" (.str n) [])) := upd_same
      have k4 : ∀ b o, H b = some o → b ≠ p → (upd H3 p (.ins C dx (putF "name" (.str n) []))) b = some o := fun b o e hb => by rw [upd_ne hb]; exact s3 _ _ e
      have n4 : ∀ b, (upd H3 p (.ins C dx (putF "name" (.str n) []))) b = none → H b = none := fun b e => by
        cases q : H b with
        | none => rfl
        | some o =>
          by_cases hb : b = p
          · subst hb
            rw [hp4] at e
            cases e
          · rw [k4 b o q hb] at e
            cases e
      generalize upd H3 p (.ins C dx (putF "name" (.str n) [])) = H4 at ha hx hp4 k4 n4 ⊢
      refine ⟨_, rfl, a, rfl, ⟨xs, SqL.of ha⟩, comp_list (xs := xs) (fun i ys H' => Same H4 H' ∧ HasAll (fun a => H a = none) H' ys (ds.take i)) ⟨Same.refl _, .nil⟩ (fun i ys H' q => SqL.of (q.1 _ _ ha)) (fun i ys H' hi q => ?_) ?_ ?_⟩
      · have := q.2.length
        have := List.length_take_le i ds
        have := small1000 hz
        have := hx.length
        omega
      · rintro i x ys H' hi ⟨s5, hy⟩ N hN
        obtain ⟨d, hd', hv⟩ := hx.get hi
        obtain ⟨b, x0, y0, nd, l, vs, zs, rfl, _, hb, rfl, hnm, rfl, _, hl, hzl, hvs, _, hun⟩ := pair_inv hv (all_get fb.1 hd')
        have hnn : nameD nd = true := by
          have z := List.all_eq_true.mp (unlike_all fb.2) nd (List.mem_map.mpr ⟨_, List.mem_of_getElem? hd', rfl⟩)
          exact z
        refine pick ?_
        refine ⟨_, rfl, b, _, _, x0, rfl, rfl, SqT.of (s5 _ _ hb), rfl, _, rfl, b, _, _, _, rfl, rfl, SqT.of (s5 _ _ hb), rfl, l, zs, rfl, .inl (SqL.of (s5 _ _ hl)), fun l2 hl2 => ⟨by show 2 ≤ sizeLine; decide, fun t ht => hN _ _ ⟨?_, ?_⟩⟩⟩
        · exact (s5.trans (Same.new hl2)).trans (Same.new ht)
        · rw [List.take_add_one, hd']
          have s6 : Same H' (upd (upd H' l2 (.lst zs)) t (.tup [x0, .ref l2])) := (Same.new hl2).trans (Same.new ht)
          refine (hy.mono s6).snoc (.tup ?_ upd_same (by show 2 ≤ 1000; decide) (.cons (name_any hnm hnn) (.cons (.lst ?_ ?_ hzl (names_any hvs (unlike_all hun))) .nil)))
          · exact n4 _ (s5.free ((Same.new (o := .lst zs) hl2).free ht))
          · exact n4 _ (s5.free hl2)
          · exact (Same.new ht) _ _ upd_same
      · rintro ys H' ⟨s5, hy⟩ l hl
        have ll : ys.length ≤ 1000 := by
          have := hy.length
          have := List.length_take_le xs.length ds
          have := hx.length
          omega
        rw [hx.length, List.take_length] at hy
        have hp5 : (upd H' l (.lst ys)) p = some (.ins C dx (putF "name" (.str n) [])) := (Same.new hl) _ _ (s5 _ _ hp4)
        refine ⟨_, rfl, p, C, dx, _, rfl, hp5, KC.cl, KC.nF, (by show 1 < 1000; decide), ?_⟩
        refine ⟨_, rfl, _, rfl, p, C, dx, _, rfl, upd_same, KC.cl, KC.nO, (by have := length_putF "fields" (V.ref l) (putF "name" (V.str n) []); have : (putF "name" (V.str n) []).length = 1 := rfl; omega), ?_⟩
        refine k _ l upd_same ?_ fun b o e hb => ?_
        · have h0 : Has (fun a => H a = none) (upd H' l (.lst ys)) (.ref l) (.list ds) := .lst (n4 _ (s5.free hl)) upd_same ll (hy.mono (Same.new hl))
          refine h0.frame fun b o g q => ⟨g, ?_⟩
          have hb : b ≠ p := fun z => by rw [z, hp] at g; cases g
          rw [upd_ne hb, upd_ne hb]
          exact q
        · rw [upd_ne hb, upd_ne hb]
          exact (Same.new hl) _ _ (s5 _ _ (k4 b o e hb))
end
end My
-- MOD K7B
namespace My
open PySem L2
/-! ### the law's own names: words, turned -/
noncomputable def words : List Str := ["a", "ac", "ab", "b", "box", "boxes", "bo", "zzzzzzzz", "abcdefgh", "of", "kind", "lid", "l", "is", "not", "want", "red", "lids", "wanted"]
noncomputable def lets : List Nat := [97, 98, 99, 100, 101, 102, 103, 104, 105, 106, 107, 108, 109, 110, 111, 112, 113, 114, 115, 116, 117, 118, 119, 120, 121, 122]
theorem letters_eq : letters.cps.toList = lets := by decide +kernel
theorem mem_lets {c : Nat} : c ∈ lets ↔ 97 ≤ c ∧ c ≤ 122 := by
  refine ⟨fun h => (by decide +kernel : ∀ c ∈ lets, 97 ≤ c ∧ c ≤ 122) c h, fun ⟨h1, h2⟩ => ?_⟩
  have := (by decide +kernel : ∀ i < 26, 97 + i ∈ lets) (c - 97) (by omega)
  rwa [Nat.add_sub_cancel' h1] at this
theorem charB_iff {c : Nat} : charB c = true ↔ 97 ≤ c ∧ c ≤ 122 := by
  unfold charB
  rw [letters_eq, decide_eq_true_eq, mem_lets]
theorem words_ok : ∀ x ∈ words, (1 ≤ x.length ∧ x.length ≤ 8) ∧ ∀ c ∈ x.cps.toList, 97 ≤ c ∧ c ≤ 122 := by decide +kernel
theorem words_nodup : words.Nodup := by decide +kernel
noncomputable def rotC (t c : Nat) : Nat := 97 + (c - 97 + t) % 26
noncomputable def rotS (t : Nat) (x : Str) : Str := ⟨(x.cps.toList.map (rotC t)).toArray⟩
theorem rotC_in (t c : Nat) : 97 ≤ rotC t c ∧ rotC t c ≤ 122 := by unfold rotC; omega
theorem rotC_inj {t c d : Nat} (hc : 97 ≤ c ∧ c ≤ 122) (hd : 97 ≤ d ∧ d ≤ 122) (h : rotC t c = rotC t d) : c = d := by unfold rotC at h; omega
theorem rotS_len (t : Nat) (x : Str) : (rotS t x).length = x.length := by
  show ((x.cps.toList.map (rotC t)).toArray).size = x.cps.size
  rw [List.size_toArray, List.length_map, Array.length_toList]
theorem map_inj_on {f : Nat → Nat} : ∀ {l m : List Nat}, (∀ c ∈ l, ∀ d ∈ m, f c = f d → c = d) → l.map f = m.map f → l = m
  | [], [], _, _ => rfl
  | [], _ :: _, _, h => by cases h
  | _ :: _, [], _, h => by cases h
  | a :: l, b :: m, k, h => by
    rw [List.map_cons, List.map_cons] at h
    injection h with h1 h2
    rw [k a List.mem_cons_self b List.mem_cons_self h1, map_inj_on (fun c hc d hd => k c (List.mem_cons_of_mem _ hc) d (List.mem_cons_of_mem _ hd)) h2]
theorem rotS_inj {t : Nat} {x y : Str} (hx : ∀ c ∈ x.cps.toList, 97 ≤ c ∧ c ≤ 122) (hy : ∀ c ∈ y.cps.toList, 97 ≤ c ∧ c ≤ 122) (h : rotS t x = rotS t y) : x = y := by
  unfold rotS at h
  injection h with h
  have h' : x.cps.toList.map (rotC t) = y.cps.toList.map (rotC t) := by simpa using congrArg Array.toList h
  have e := map_inj_on (fun c hc d hd q => rotC_inj (hx c hc) (hy d hd) q) h'
  cases x
  cases y
  exact congrArg Str.mk (Array.toList_inj.mp e)
theorem rotS_name {t : Nat} {x : Str} (h1 : 1 ≤ x.length) (h8 : x.length ≤ 8) : nameB (rotS t x) = true := by
  unfold nameB
  rw [rotS_len, decide_eq_true h1, decide_eq_true h8, Bool.true_and, Bool.true_and, List.all_eq_true]
  intro c hc
  have hc' : c ∈ x.cps.toList.map (rotC t) := by simpa [rotS] using hc
  obtain ⟨d, _, rfl⟩ := List.mem_map.mp hc'
  exact charB_iff.mpr (rotC_in t d)
theorem rotS_ok (t : Nat) (x : Str) : PyData.strOk (rotS t x) = true := by
  unfold PyData.strOk
  rw [Array.all_eq_true']
  intro c hc
  have hc' : c ∈ x.cps.toList.map (rotC t) := by simpa [rotS] using hc
  obtain ⟨d, _, rfl⟩ := List.mem_map.mp hc'
  have := rotC_in t d
  simp only [decide_eq_true_eq]
  omega
theorem mul19 : ∀ s < 19, ∀ d < 19, 0 < s → 0 < d → (s * d) % 19 ≠ 0 := by decide +kernel
theorem place_inj {a s i j : Nat} (hs : 0 < s) (hs' : s < 19) (hi : i < j) (hj : j < 19) (h : (a + s * i) % 19 = (a + s * j) % 19) : False := by
  have e : s * j = s * i + s * (j - i) := by rw [← Nat.mul_add]; congr 1; omega
  refine mul19 s hs' (j - i) (by omega) hs (by omega) ?_
  rw [e] at h
  omega
noncomputable def nm (a s t k : Nat) : Str := rotS t (words[(a + s * k) % 19]?.getD "")
theorem words_get (i : Nat) (h : i < 19) : ∃ x, words[i]? = some x ∧ x ∈ words := by
  have h' : i < words.length := h
  exact ⟨words[i], List.getElem?_eq_getElem h', List.getElem_mem _⟩
theorem nm_ok (a s t k : Nat) : nameB (nm a s t k) = true ∧ PyData.strOk (nm a s t k) = true ∧ (nm a s t k).length ≤ 8 := by
  obtain ⟨x, e, hx⟩ := words_get ((a + s * k) % 19) (Nat.mod_lt _ (by decide))
  unfold nm
  rw [e, Option.getD_some]
  obtain ⟨⟨h1, h8⟩, _⟩ := words_ok x hx
  exact ⟨rotS_name h1 h8, rotS_ok t x, by rw [rotS_len]; exact h8⟩
theorem nm_ne {a s t i j : Nat} (hs : 0 < s) (hs' : s < 19) (hi : i < j) (hj : j < 19) : nm a s t i ≠ nm a s t j := by
  intro h
  obtain ⟨x, e, hx⟩ := words_get ((a + s * i) % 19) (Nat.mod_lt _ (by decide))
  obtain ⟨y, e', hy⟩ := words_get ((a + s * j) % 19) (Nat.mod_lt _ (by decide))
  unfold nm at h
  rw [e, e', Option.getD_some, Option.getD_some] at h
  have q := rotS_inj (words_ok x hx).2 (words_ok y hy).2 h
  subst q
  have z := (List.getElem?_inj (show (a + s * i) % 19 < words.length from Nat.mod_lt _ (by decide)) words_nodup).mp (e.trans e'.symm)
  exact place_inj hs hs' hi hj z
theorem nms_nodup {a s t : Nat} (hs : 0 < s) (hs' : s < 19) : ∀ n, n ≤ 19 → ((List.range n).map (nm a s t)).Nodup
  | 0, _ => List.nodup_nil
  | n + 1, h => by
    rw [List.range_succ, List.map_append]
    refine List.nodup_append.mpr ⟨nms_nodup hs hs' n (by omega), by simp, ?_⟩
    intro x hx y hy
    simp only [List.map_cons, List.map_nil, List.mem_cons, List.not_mem_nil, or_false] at hy
    subst hy
    obtain ⟨i, hi, rfl⟩ := List.mem_map.mp hx
    exact nm_ne hs hs' (List.mem_range.mp hi) (by omega)
theorem index_of : ∀ c ∈ lets, Builtin.Str.occurrences letters ⟨#[c]⟩ 0 letters.length 1 = [c - 97] := by decide +kernel
theorem join1 : ∀ cs : List Nat, Str.join ⟨#[]⟩ (cs.map fun c => (⟨#[c]⟩ : Str)) = ⟨cs.toArray⟩
  | [] => rfl
  | [c] => rfl
  | c :: d :: r => by
    show (⟨#[c]⟩ : Str) ++ ⟨#[]⟩ ++ Str.join ⟨#[]⟩ ((d :: r).map fun c => (⟨#[c]⟩ : Str)) = _
    rw [join1 (d :: r)]
    show (⟨(#[c] ++ #[]) ++ (d :: r).toArray⟩ : Str) = _
    congr 1
    apply Array.toList_inj.mp
    simp
theorem joinOk1 {cs : List Nat} (h : cs.length ≤ 1000) : PySem.JoinOk (⟨#[]⟩ : Str) (cs.map fun c => (⟨#[c]⟩ : Str)) = true := by
  have key : ∀ (l : List Nat) (n : Nat), (l.map fun c => (⟨#[c]⟩ : Str)).foldl (fun a x => a + x.length + (⟨#[]⟩ : Str).length) n = n + l.length := by
    intro l
    induction l with
    | nil => intro n; rfl
    | cons c r ih =>
      intro n
      rw [List.map_cons, List.foldl_cons, ih, List.length_cons]
      show n + 1 + 0 + r.length = _
      omega
  unfold PySem.JoinOk
  rw [List.foldl_toArray, key]
  have := small1000 h
  unfold Builtin.Str.tooLong
  simp
  omega
theorem comp_charsM {x : Str} {k : Nat} {σ : St} {H : Hp} {g : TG} {tt : TT} {te : TE} {Q : VK} (f : Nat → V) (hz : x.length ≤ sizeLine)
    (hs : ∀ c (Ry : VK), c ∈ x.cps.toList → Ry (f c) H → ∀ Rn : Hp → Prop, g (.str ⟨#[c]⟩) (σ ++ List.replicate k none) H fun σ2 H2 => tt σ2 H2 fun b H3 => if b = true then te σ2 H3 Ry else Rn H3)
    (hd : ∀ q, H q = none → Q (.ref q) (upd H q (.lst (x.cps.toList.map f)))) : CompGoal (Its x) k σ H g tt te Q := by
  have hlen : x.cps.toList.length = x.length := by rw [Array.length_toList]; rfl
  refine comp_by (J := Its x) (n := x.length) (fun i ys H' => H' = H ∧ ys = (x.cps.toList.take i).map f) ⟨rfl, rfl⟩ (fun i ys H' lt _ => lt) (fun ys H' _ => Nat.le_refl _) (fun i ys H' hi q => ?_) ?_ ?_
  · obtain ⟨_, rfl⟩ := q
    rw [List.length_map]
    have b := List.length_take_le i x.cps.toList
    omega
  · rintro i ys H' v H2 lt ⟨rfl, rfl⟩ ⟨rfl, c, hc, rfl⟩ N hN
    have hc' : x.cps.toList[i]? = some c := by rw [Array.getElem?_toList]; exact hc
    refine hs c _ (List.mem_of_getElem? hc') (hN _ _ ⟨rfl, ?_⟩) _
    rw [List.take_add_one, hc', List.map_append]
    rfl
  · rintro ys H' ⟨rfl, rfl⟩ q hq
    rw [← hlen, List.take_length]
    exact hd q hq
noncomputable def spSign : Sp := fun vs H Q _ => ∃ (c t : Nat), vs = [.str ⟨#[c]⟩, .int t] ∧ (97 ≤ c ∧ c ≤ 122) ∧ Q (.str ⟨#[rotC t c]⟩) H
noncomputable def spNames : Sp := fun vs H Q _ => ∃ (p : Addr) (m k : Int), vs = [.ref p, .int m] ∧ Src H p k ∧ k ≤ 990000 ∧ 0 ≤ m ∧ m ≤ 19 ∧
  ∀ (l : Addr) (ks : List Str) (H' : Hp), (ks.length : Int) = m → ks.Nodup → (∀ x ∈ ks, nameB x = true ∧ PyData.strOk x = true ∧ x.length ≤ 8) → H' l = some (.lst (ks.map V.str)) → H l = none → Src H' p (k + 5) → (∀ b o, H b = some o → b ≠ p → H' b = some o) → Q (.ref l) H'
section
variable {P : Program} {w : World} {K : PySem.W.Frag} {mg : Str → Option Value} {base : Heap} {CX : CXT}
theorem scSg : FnScope ["_law_sign_here", "_law_turn", "_law_small"] ["_law_sign_here", "_law_turn"] (defScope sSign) := ⟨rfl, rfl, rfl, by decide +kernel, rfl, by decide +kernel, by decide +kernel⟩
theorem ok_sign {f : Addr} {fd : FuncData} (F : Fun K "_law_sign" "_law_sign" sSign f fd) : FnOk P w K mg base CX 1 f fd ["_law_sign_here", "_law_turn"] spSign := by
  refine Fun.okC F scSg (fun vs H Q E h => ?_) (fun cdv A outer s H vs Q E hr h => ?_)
  · obtain ⟨c, t, rfl, _⟩ := h
    rfl
  · obtain ⟨c, t, rfl, hc, k⟩ := h
    refine ⟨_, pss_cons (ps_set (i := 2) scSg.nd rfl (Or.inl rfl) pe_str)
      (pss_one (ps_ret (pe_ix ix_str (pv 2) (pe_op op_mod (pe_op op_add (pe_bm PySem.F.plainAttrs_str PySem.F.slot_str_index PySem.F.type_str_index mt_index (pv 2) (pa_cons (pv 0) pa_nil)) (pv 1)) pe_int) (fun _ _ => rfl)))), ?_⟩
    refine ⟨_, rfl, _, rfl, rfl, _, rfl, letters, _, c - 97, [], rfl, rfl, index_of c (mem_lets.mpr hc), ?_⟩
    refine ⟨_, rfl, _, _, rfl, rfl, _, _, rfl, rfl, (by show (0 : Int) < 26; decide), ?_⟩
    have hi : (c - 97 + t) % 26 < 26 := Nat.mod_lt _ (by decide)
    have e : lets[(c - 97 + t) % 26]? = some (rotC t c) := by
      have key : ∀ i < 26, lets[i]? = some (97 + i) := by decide +kernel
      exact key _ hi
    refine ⟨letters, _, rotC t c, rfl, rfl, Nat.le_of_lt (small1000 (by decide +kernel)), ?_, k⟩
    have e2 : (((c - 97 : Nat) : Int) + (t : Int)) % 26 = (((c - 97 + t) % 26 : Nat) : Int) := by omega
    show atI letters.cps.toList ((((c - 97 : Nat) : Int) + (t : Int)) % 26) = some (rotC t c)
    rw [e2, letters_eq]
    exact atI_nat e
end
end My
-- MOD K7C
namespace L2.W
open PySem My
section
variable {P : Program} {w : World} {K : PySem.W.Frag} {mg : Str → Option Value} {base : Heap} {CX : CXT}
theorem scNm : FnScope ["_law_source", "_law_many", "_law_words", "_law_start", "_law_step", "_law_turn", "_law_some"] ["_law_source", "_law_many"] (defScope sNames) := ⟨rfl, rfl, rfl, by decide +kernel, rfl, by decide +kernel, by decide +kernel⟩
set_option maxHeartbeats 4000000 in
theorem ok_names {f fm fn fs : Addr} {fd fdm fdn fds : FuncData} (hC : Calm CX) (T : Tops K mg) (F : Fun K "_law_names" "_law_names" sNames f fd) (DM : Def K mg "_law_mixed" sMixed ["_law_cell", "_law_k"] fm fdm)
    (DN : Def K mg "_law_next" sNext ["_law_source", "_law_many"] fn fdn) (DS : Def K mg "_law_sign" sSign ["_law_sign_here", "_law_turn"] fs fds) : FnOk P w K mg base CX 3 f fd ["_law_source", "_law_many"] spNames := by
  have GN : FnOk P w K mg base CX 2 fn fdn ["_law_source", "_law_many"] spNext := ok_next hC DN.fn DM
  have GS : FnOk P w K mg base CX 1 fs fds ["_law_sign_here", "_law_turn"] spSign := ok_sign DS.fn
  refine Fun.okC F scNm (fun vs H Q E h => ?_) (fun cdv A outer s H vs Q E hr h => ?_)
  · obtain ⟨p, m, k, rfl, _⟩ := h
    rfl
  · obtain ⟨p, m, k, rfl, S0, hk, m0, m1, q⟩ := h
    have nd := scNm.nd
    have hr1 := hr.mono (show 1 ≤ 2 by decide)
    refine ⟨_, pss_cons (ps_set (i := 2) nd rfl (Or.inr rfl) (pe_lst (pa_consts (vs := [.str "a", .str "ac", .str "ab", .str "b", .str "box", .str "boxes", .str "bo", .str "zzzzzzzz", .str "abcdefgh", .str "of"]) (by decide +kernel))))
      (pss_cons (ps_set (i := 2) nd rfl (Or.inr rfl) (pe_op op_cat (pv 2) (pe_lst (pa_consts (vs := [.str "kind", .str "lid", .str "l", .str "is", .str "not", .str "want", .str "red", .str "lids", .str "wanted"]) (by decide +kernel)))))
      (pss_cons (ps_set (i := 3) nd rfl (Or.inr rfl) (pe_call GN hr rfl DN.at_ DN.fn.kp DN.bind .nil (passC hC) (pa_cons (pv 0) (pa_cons pe_int pa_nil))))
      (pss_cons (ps_set (i := 4) nd rfl (Or.inr rfl) (pe_op op_add pe_int (pe_call GN hr rfl DN.at_ DN.fn.kp DN.bind .nil (passC hC) (pa_cons (pv 0) (pa_cons pe_int pa_nil)))))
      (pss_cons (ps_set (i := 5) nd rfl (Or.inr rfl) (pe_ix ix_list (pe_lst (pa_cons pe_int (pa_cons (pe_call GN hr rfl DN.at_ DN.fn.kp DN.bind .nil (passC hC) (pa_cons (pv 0) (pa_cons pe_int pa_nil))) pa_nil))) (pe_call GN hr rfl DN.at_ DN.fn.kp DN.bind .nil (passC hC) (pa_cons (pv 0) (pa_cons pe_int pa_nil))) (fun _ _ => rfl)))
      (pss_cons (ps_setComp (T := ["_law_k"]) (i := 6) rfl ScOk.auto (pi_range1 rfl T.range (pa_cons (pv 1) pa_nil)) (fun _ _ _ _ => pg_name (i := 7) (by decide +kernel : (["_law_source", "_law_many", "_law_words", "_law_start", "_law_step", "_law_turn", "_law_some", "_law_k"] : List Str).Nodup) rfl (Or.inl rfl)) (fun _ _ _ _ => pf_nil)
        (fun _ _ _ _ => pe_ix (r := rIxL K) ix_list (pv 2) (pe_op op_mod (pe_op op_add (pv 3) (pe_op op_mul (pv 4) (pv 7))) pe_int) (fun _ _ => rfl)) nd rfl rfl rfl)
      (pss_one (ps_ret (pe_comp (T := ["_law_word_here"]) rfl ScOk.auto (pi_list (pv 6)) (fun _ _ _ _ => pg_name (i := 7) (by decide +kernel : (["_law_source", "_law_many", "_law_words", "_law_start", "_law_step", "_law_turn", "_law_some", "_law_word_here"] : List Str).Nodup) rfl (Or.inl rfl)) (fun _ _ _ _ => pf_nil)
        (fun _ _ _ _ => pe_bmK rfl PySem.F.plainAttrs_str PySem.F.slot_str_join PySem.F.type_str_join (mt_join (K := K) rfl) pe_str (pa_cons (pe_comp (T := ["_law_sign_here"]) rfl ScOk.auto (pi_str (pv 7)) (fun _ _ _ _ => pg_name (i := 8) (by decide +kernel : (["_law_source", "_law_many", "_law_words", "_law_start", "_law_step", "_law_turn", "_law_some", "_law_word_here", "_law_sign_here"] : List Str).Nodup) rfl (Or.inl rfl)) (fun _ _ _ _ => pf_nil)
          (fun _ _ _ _ => pe_call GS hr1 rfl DS.at_ DS.fn.kp DS.bind .nil (passC hC) (pa_cons (pv 8) (pa_cons (pv 5) pa_nil)))) pa_nil)))))))))), ?_⟩
    have small : ∀ n : Nat, n ≤ 1000 → n ≤ sizeLine := fun n h => Nat.le_of_lt (small1000 h)
    have src : ∀ {H1 H2 : Hp} {j : Int}, Src H1 p j → (∀ o, H1 p = some o → H2 p = some o) → Src H2 p j := fun ⟨a, c, i, e, r⟩ h => ⟨a, c, i, h _ e, r⟩
    have hp0 : ∀ b, H b = none → b ≠ p := fun b hb => by obtain ⟨a, c, j, e, _⟩ := S0; exact (ne_of_none e hb).symm
    -- the words
    refine ⟨small _ (by simp), fun w1 h1 => ?_⟩
    refine ⟨_, rfl, small _ (by simp), fun w2 h2 => ⟨w1, w2, _, _, rfl, rfl, (Same.new h2) _ _ upd_same, upd_same, small _ (by simp), fun w3 h3 => ?_⟩⟩
    have hw3 : (upd (upd (upd H w1 (.lst [.str "a", .str "ac", .str "ab", .str "b", .str "box", .str "boxes", .str "bo", .str "zzzzzzzz", .str "abcdefgh", .str "of"])) w2 (.lst [.str "kind", .str "lid", .str "l", .str "is", .str "not", .str "want", .str "red", .str "lids", .str "wanted"])) w3 (.lst ([.str "a", .str "ac", .str "ab", .str "b", .str "box", .str "boxes", .str "bo", .str "zzzzzzzz", .str "abcdefgh", .str "of"] ++ [.str "kind", .str "lid", .str "l", .str "is", .str "not", .str "want", .str "red", .str "lids", .str "wanted"]))) w3 = some (.lst (words.map V.str)) := upd_same
    have sH : Same H (upd (upd (upd H w1 (.lst [.str "a", .str "ac", .str "ab", .str "b", .str "box", .str "boxes", .str "bo", .str "zzzzzzzz", .str "abcdefgh", .str "of"])) w2 (.lst [.str "kind", .str "lid", .str "l", .str "is", .str "not", .str "want", .str "red", .str "lids", .str "wanted"])) w3 (.lst ([.str "a", .str "ac", .str "ab", .str "b", .str "box", .str "boxes", .str "bo", .str "zzzzzzzz", .str "abcdefgh", .str "of"] ++ [.str "kind", .str "lid", .str "l", .str "is", .str "not", .str "want", .str "red", .str "lids", .str "wanted"]))) := ((Same.new h1).trans (Same.new h2)).trans (Same.new h3)
    have fw3 : H w3 = none := ((Same.new h1).trans (Same.new h2)).free h3
    generalize upd (upd (upd H w1 (.lst [.str "a", .str "ac", .str "ab", .str "b", .str "box", .str "boxes", .str "bo", .str "zzzzzzzz", .str "abcdefgh", .str "of"])) w2 (.lst [.str "kind", .str "lid", .str "l", .str "is", .str "not", .str "want", .str "red", .str "lids", .str "wanted"])) w3 (.lst ([.str "a", .str "ac", .str "ab", .str "b", .str "box", .str "boxes", .str "bo", .str "zzzzzzzz", .str "abcdefgh", .str "of"] ++ [.str "kind", .str "lid", .str "l", .str "is", .str "not", .str "want", .str "red", .str "lids", .str "wanted"])) = G0 at *
    have S1 : Src G0 p k := src S0 fun o e => sH _ _ e
    have np3 : w3 ≠ p := hp0 _ fw3
    -- start, step, turn
    refine ⟨_, rfl, p, _, k, rfl, S1, by omega, by decide, by decide, fun a G1 a0 a1 S2 k1 => ?_⟩
    refine ⟨_, rfl, p, _, _, rfl, S2, by omega, by decide, by decide, fun b G2 b0 b1 S3 k2 => ⟨_, _, rfl, rfl, ?_⟩⟩
    refine ⟨_, rfl, p, _, _, rfl, S3, by omega, by decide, by decide, fun c G3 c0 c1 S4 k3 => ⟨small _ (by simp), fun q1 hq1 => ?_⟩⟩
    have nq : q1 ≠ p := by obtain ⟨_, _, _, e, _⟩ := S4; exact (ne_of_none e hq1).symm
    have S5 : Src (upd G3 q1 (.lst [.int 0, .int c])) p (k + 1 + 1 + 1) := src S4 fun o e => (Same.new hq1) _ _ e
    refine ⟨_, rfl, p, _, _, rfl, S5, by omega, by decide, by decide, fun d G4 d0 d1 S6 k4 => ?_⟩
    have hq4 : G4 q1 = some (.lst [.int 0, .int c]) := by rw [k4 q1 nq]; exact upd_same
    obtain ⟨t, ht⟩ : ∃ t : Nat, atI [V.int 0, V.int c] d = some (.int (t : Int)) := by
      rcases (show d = 0 ∨ d = 1 by omega) with rfl | rfl
      · exact ⟨0, rfl⟩
      · exact ⟨c.toNat, by rw [show ((c.toNat : Nat) : Int) = c by omega]; rfl⟩
    refine ⟨q1, _, _, _, rfl, rfl, SqL.of hq4, ht, ?_⟩
    have fr : ∀ b o, G0 b = some o → b ≠ p → G4 b = some o := fun b o e hb => by
      rw [k4 b hb]
      refine (Same.new hq1) _ _ ?_
      rw [k3 b hb, k2 b hb, k1 b hb]
      exact e
    have hw4 := fr _ _ hw3 np3
    obtain ⟨a', rfl⟩ : ∃ n : Nat, a = n := ⟨a.toNat, by omega⟩
    obtain ⟨b', rfl⟩ : ∃ n : Nat, b = n := ⟨b.toNat, by omega⟩
    obtain ⟨m', rfl⟩ : ∃ n : Nat, m = n := ⟨m.toNat, by omega⟩
    have hb19 : 0 < 1 + b' ∧ 1 + b' < 19 := by omega
    -- the chosen words
    refine ⟨_, rfl, (m' : Int), rfl, by omega, by omega, ?_⟩
    rw [Int.toNat_natCast]
    refine comp_range (lo := 0) (n := m') (fun i ys H' => H' = G4 ∧ ys = (List.range i).map fun j => V.str (words[(a' + (1 + b') * j) % 19]?.getD "")) ⟨rfl, rfl⟩ (fun i ys H' hi z => ?_) ?_ ?_
    · rw [z.2, List.length_map, List.length_range]
      exact small _ (by omega)
    · rintro i ys H' hi ⟨rfl, rfl⟩ N hN
      refine pick ?_
      refine ⟨_, rfl, _, rfl, _, rfl, _, rfl, _, _, rfl, rfl, .inl ⟨by omega, by omega⟩, _, _, rfl, rfl, _, _, rfl, rfl, (by show (0 : Int) < 19; decide), ?_⟩
      obtain ⟨x, ex, _⟩ := words_get ((a' + (1 + b') * i) % 19) (Nat.mod_lt _ (by decide))
      have e1 : ((a' : Int) + (1 + (b' : Int)) * (0 + (i : Int))) % 19 = (((a' + (1 + b') * i) % 19 : Nat) : Int) := by
        rw [Int.zero_add]
        push_cast
        rfl
      refine ⟨w3, words.map V.str, _, .str x, rfl, rfl, SqL.of hw4, ?_, hN _ _ ⟨rfl, ?_⟩⟩
      · show atI (words.map V.str) (((a' : Int) + (1 + (b' : Int)) * (0 + (i : Int))) % 19) = some (.str x)
        rw [e1]
        refine atI_nat ?_
        rw [List.getElem?_map, ex]
        rfl
      · rw [List.range_succ, List.map_append]
        show _ ++ [V.str x] = _ ++ [V.str (words[(a' + (1 + b') * i) % 19]?.getD "")]
        rw [ex]
        rfl
    · rintro ys H' ⟨rfl, rfl⟩ l1 hl1
      -- turned
      have sL := Same.new (o := .lst ((List.range m').map fun j => V.str (words[(a' + (1 + b') * j) % 19]?.getD ""))) hl1
      have hl2 : (upd H' l1 (.lst ((List.range m').map fun j => V.str (words[(a' + (1 + b') * j) % 19]?.getD "")))) l1 = some (.lst ((List.range m').map fun j => V.str (words[(a' + (1 + b') * j) % 19]?.getD ""))) := upd_same
      generalize upd H' l1 (.lst ((List.range m').map fun j => V.str (words[(a' + (1 + b') * j) % 19]?.getD ""))) = G5 at sL hl2 ⊢
      refine ⟨_, rfl, l1, rfl, ⟨_, SqL.of hl2⟩, comp_list (xs := (List.range m').map fun j => V.str (words[(a' + (1 + b') * j) % 19]?.getD "")) (fun i ys H' => Same G5 H' ∧ ys = (List.range i).map fun j => V.str (nm a' (1 + b') t j)) ⟨Same.refl _, rfl⟩ (fun i ys H' z => SqL.of (z.1 _ _ hl2)) (fun i ys H' hi z => ?_) ?_ ?_⟩
      · rw [z.2, List.length_map, List.length_range]
        rw [List.length_map, List.length_range] at hi
        exact small _ (by omega)
      · rintro i x ys H6 hi ⟨s6, rfl⟩ N hN
        have hi' : i < m' := by have := (List.getElem?_eq_some_iff.mp hi).1; simpa using this
        have ex : x = V.str (words[(a' + (1 + b') * i) % 19]?.getD "") := by
          rw [List.getElem?_map, List.getElem?_range hi'] at hi
          exact (Option.some.inj hi).symm
        subst ex
        obtain ⟨x, ex, hxw⟩ := words_get ((a' + (1 + b') * i) % 19) (Nat.mod_lt _ (by decide))
        have en : nm a' (1 + b') t i = rotS t x := by unfold nm; rw [ex]; rfl
        rw [ex, Option.getD_some]
        have okx := words_ok x hxw
        refine pick ?_
        refine ⟨rfl, ?_⟩
        refine ⟨_, rfl, x, rfl, comp_charsM (fun c => .str ⟨#[rotC t c]⟩) (small _ (by omega)) (fun c Ry hc hR Rn => ?_) (fun q2 hq2 => ?_)⟩
        · refine pick ?_
          exact ⟨_, rfl, _, rfl, c, t, rfl, okx.2 c hc, hR⟩
        · have el : x.cps.toList.map (fun c => V.str ⟨#[rotC t c]⟩) = ((x.cps.toList.map (rotC t)).map fun c => (⟨#[c]⟩ : Str)).map V.str := by
            rw [List.map_map, List.map_map]
            rfl
          have ee : ("" : Str) = ⟨#[]⟩ := by decide +kernel
          refine ⟨⟨#[]⟩, q2, (x.cps.toList.map (rotC t)).map fun c => (⟨#[c]⟩ : Str), congrArg V.str ee, rfl, SqL.of (by rw [upd_same, el]), joinOk1 ?_, ?_⟩
          · rw [List.length_map, Array.length_toList]
            have : x.cps.size = x.length := rfl
            omega
          · have ej : Txt.join ⟨#[]⟩ ((x.cps.toList.map (rotC t)).map fun c => (⟨#[c]⟩ : Str)) = rotS t x := by
              show Builtin.Str.glued _ _ = _
              rw [PySem.StrLaws.glued_eq_join, join1]
              rfl
            rw [ej, ← en]
            refine hN _ _ ⟨s6.trans (Same.new hq2), ?_⟩
            rw [List.range_succ, List.map_append]
            rfl
      · rintro ys H6 ⟨s6, rfl⟩ l hl
        rw [List.length_map, List.length_range]
        have sN := Same.new (o := .lst ((List.range m').map fun j => V.str (nm a' (1 + b') t j))) hl
        have nl : l ≠ p := by
          obtain ⟨_, _, _, e, _⟩ := S6
          exact (ne_of_none (s6 _ _ (sL _ _ e)) hl).symm
        refine q l ((List.range m').map (nm a' (1 + b') t)) _ (by rw [List.length_map, List.length_range]) (nms_nodup hb19.1 hb19.2 m' (by omega)) (fun x hx => ?_) (by rw [upd_same, List.map_map]; rfl) ?_ ?_ fun b o e hb => ?_
        · obtain ⟨j, _, rfl⟩ := List.mem_map.mp hx
          exact nm_ok _ _ _ _
        · cases z : H l with
          | none => rfl
          | some o =>
            have := s6 _ _ (sL _ _ (fr _ _ (sH _ _ z) nl))
            rw [this] at hl
            cases hl
        · exact (src S6 fun o e => sN _ _ (s6 _ _ (sL _ _ e))).mono (by omega)
        · exact sN _ _ (s6 _ _ (sL _ _ (fr _ _ (sH _ _ e) hb)))
end
end L2.W
-- MOD K7D
namespace L2.W
open PySem My
/-! ### the law's own fields -/
noncomputable def nameOk (x : Str) : Prop := nameB x = true ∧ PyData.strOk x = true ∧ x.length ≤ 8
structure ValsOk (vs : List Str) : Prop where
  ne : 0 < vs.length
  le : vs.length ≤ 8
  nd : vs.Nodup
  ok : ∀ x ∈ vs, nameOk x
noncomputable def fieldD (f : Str × List Str) : PyData := .tuple [.str f.1, .list (f.2.map .str)]
noncomputable def manyOf (fs : List (Str × List Str)) : Nat := fs.foldl (fun m f => m * f.2.length) 1
structure FieldsOk (fs : List (Str × List Str)) : Prop where
  le : fs.length ≤ 3
  nd : (fs.map (·.1)).Nodup
  ok : ∀ f ∈ fs, nameOk f.1 ∧ ValsOk f.2
  many : manyOf fs ≤ 8
noncomputable def SzOk (szs : List Nat) : Prop := szs.length ≤ 3 ∧ (∀ n ∈ szs, 1 ≤ n ∧ n ≤ 8) ∧ szs.foldl (fun m n => m * n) 1 ≤ 8
noncomputable def Tab (H0 H : Hp) (v : V) : Prop := ∃ (r : Addr) (szs : List Nat), v = .ref r ∧ H0 r = none ∧ H r = some (.lst (szs.map fun (n : Nat) => V.int (n : Int))) ∧ SzOk szs
noncomputable def spLFields : Sp := fun vs H Q _ => ∃ (p : Addr) (k : Int), vs = [.ref p] ∧ Src H p k ∧ k ≤ 900000 ∧
  ∀ (l : Addr) (fs : List (Str × List Str)) (H' : Hp), FieldsOk fs → Has (fun a => H a = none) H' (.ref l) (.list (fs.map fieldD)) → Src H' p (k + 30) → (∀ b o, H b = some o → b ≠ p → H' b = some o) → Q (.ref l) H'
noncomputable def szss : List (List Nat) := [[], [1], [2], [3], [8], [2, 2], [2, 3], [4, 2], [2, 2, 2], [1, 2, 4], [1, 1, 1], [5], [7, 1]]
noncomputable def tables : List (List V) := szss.map fun z => z.map fun (n : Nat) => V.int (n : Int)
theorem sz_ok : ∀ z ∈ szss, z.length ≤ 3 ∧ (∀ n ∈ z, 1 ≤ n ∧ n ≤ 8) ∧ z.foldl (fun m n => m * n) 1 ≤ 8 := by decide
theorem paired_mem {α β : Type} {R : α → β → Prop} : ∀ {l : List α} {m : List β}, Paired R l m → ∀ b ∈ m, ∃ a ∈ l, R a b
  | _, _, .nil, b, h => by simp at h
  | _, _, .cons (a := a) r t, b, h => by
    rcases List.mem_cons.mp h with rfl | h
    · exact ⟨a, List.mem_cons_self, r⟩
    · obtain ⟨c, hc, q⟩ := paired_mem t b h
      exact ⟨c, List.mem_cons_of_mem _ hc, q⟩
theorem tab_all {H H' : Hp} {rs : List V} (h : Laid H H' tables rs) : ∀ v ∈ rs, Tab H H' v := by
  intro v hv
  obtain ⟨vs, hvs, a, rfl, n, q⟩ := paired_mem h v hv
  obtain ⟨z, hz, rfl⟩ := List.mem_map.mp hvs
  exact ⟨a, z, rfl, n, q, sz_ok z hz⟩
theorem pickT {K : PySem.W.Frag} {A B : St → Hp → Prop} {σ : St} {H : Hp} {i j : Nat} {p : Addr} {x y : V} (hp : SqT K H p [x, y]) (h : A ((σ.set i (some x)).set j (some y)) H) :
    gTup K 2 (gCons (gName i) (gCons (gName j) gNil)) (.ref p) σ H fun σ2 H2 => tYes σ2 H2 fun b H3 => if b = true then A σ2 H3 else B σ2 H3 := by
  refine ⟨p, [x, y], rfl, hp, rfl, x, [y], rfl, y, [], rfl, rfl, ?_⟩
  show if true = true then A ((σ.set i (some x)).set j (some y)) H else B ((σ.set i (some x)).set j (some y)) H
  rw [if_pos rfl]
  exact h
theorem zip_snoc {α β : Type} : ∀ {l : List α} {m : List β} {i : Nat} {a : α} {b : β}, m.length = i → l[i]? = some a → (l.take (i + 1)).zip (m ++ [b]) = (l.take i).zip m ++ [(a, b)] := by
  intro l m i a b hm hl
  have e : l.take (i + 1) = l.take i ++ [a] := by rw [List.take_add_one, hl]; rfl
  rw [e, List.zip_append]
  · rfl
  · have := (List.getElem?_eq_some_iff.mp hl).1
    rw [List.length_take]
    omega
theorem names_has {G : Addr → Prop} {H : Hp} : ∀ {ks : List Str}, (∀ x ∈ ks, nameOk x) → HasAll G H (ks.map V.str) (ks.map .str)
  | [], _ => .nil
  | k :: r, h => .cons (.str k (by have := (h k List.mem_cons_self).2.2; omega) (h k List.mem_cons_self).2.1) (names_has fun x hx => h x (List.mem_cons_of_mem _ hx))
theorem many_eq : ∀ (fs : List (Str × List Str)) (m : Nat), fs.foldl (fun m f => m * f.2.length) m = (fs.map (·.2.length)).foldl (fun m n => m * n) m
  | [], m => rfl
  | f :: r, m => by rw [List.foldl_cons, List.map_cons, List.foldl_cons, many_eq r]
section
variable {P : Program} {w : World} {K : PySem.W.Frag} {mg : Str → Option Value} {base : Heap} {CX : CXT}
theorem scLf : FnScope ["_law_source", "_law_some", "_law_sizes"] ["_law_source"] (defScope sLFields) := ⟨rfl, rfl, rfl, by decide +kernel, rfl, by decide +kernel, by decide +kernel⟩
set_option maxHeartbeats 4000000 in
theorem ok_lfields {f fm fn fs fnm : Addr} {fd fdm fdn fds fdnm : FuncData} (hC : Calm CX) (T : Tops K mg) (F : Fun K "_law_fields" "_law_fields" sLFields f fd) (DM : Def K mg "_law_mixed" sMixed ["_law_cell", "_law_k"] fm fdm)
    (DN : Def K mg "_law_next" sNext ["_law_source", "_law_many"] fn fdn) (DS : Def K mg "_law_sign" sSign ["_law_sign_here", "_law_turn"] fs fds) (DA : Def K mg "_law_names" sNames ["_law_source", "_law_many"] fnm fdnm) : FnOk P w K mg base CX 4 f fd ["_law_source"] spLFields := by
  have GN : FnOk P w K mg base CX 2 fn fdn ["_law_source", "_law_many"] spNext := ok_next hC DN.fn DM
  have GA : FnOk P w K mg base CX 3 fnm fdnm ["_law_source", "_law_many"] spNames := ok_names hC T DA.fn DM DN DS
  refine Fun.okC F scLf (fun vs H Q E h => ?_) (fun cdv A outer s H vs Q E hr h => ?_)
  · obtain ⟨p, k, rfl, _⟩ := h
    rfl
  · obtain ⟨p, k, rfl, S0, hk, q⟩ := h
    have nd := scLf.nd
    have hr2 := hr.mono (show 2 ≤ 3 by decide)
    refine ⟨_, pss_cons (ps_set (i := 1) nd rfl (Or.inl rfl) (pe_lst (pa_lists (vss := tables) (by decide +kernel) (by decide +kernel))))
      (pss_cons (ps_set (i := 2) nd rfl (Or.inl rfl) (pe_ix ix_list (pv 1) (pe_call GN hr2 rfl DN.at_ DN.fn.kp DN.bind .nil (passC hC) (pa_cons (pv 0) (pa_cons pe_int pa_nil))) (fun _ _ => rfl)))
      (pss_one (ps_ret (pe_comp (T := ["_law_name", "_law_size"]) rfl ScOk.auto (pi_zip rfl T.zip (pa_cons (pe_call GA hr rfl DA.at_ DA.fn.kp DA.bind .nil (passC hC) (pa_cons (pv 0) (pa_cons (pe_callB call_len_seq rfl T.len PySem.boot_len (pa_cons (pv 2) pa_nil)) pa_nil))) (pa_cons (pv 2) pa_nil)))
        (fun _ _ _ _ => pg_tupK (K := K) (n := 2) rfl rfl (pgs_cons (pg_name (i := 3) (by decide +kernel : (["_law_source", "_law_some", "_law_sizes", "_law_name", "_law_size"] : List Str).Nodup) rfl (Or.inl rfl)) (pgs_cons (pg_name (i := 4) (by decide +kernel : (["_law_source", "_law_some", "_law_sizes", "_law_name", "_law_size"] : List Str).Nodup) rfl (Or.inl rfl)) pgs_nil))) (fun _ _ _ _ => pf_nil)
        (fun _ _ _ _ => pe_tup (pa_cons (pv 3) (pa_cons (pe_call GA hr rfl DA.at_ DA.fn.kp DA.bind .nil (passC hC) (pa_cons (pv 0) (pa_cons (pv 4) pa_nil))) pa_nil))))))), ?_⟩
    have small : ∀ n : Nat, n ≤ 1000 → n ≤ sizeLine := fun n h => Nat.le_of_lt (small1000 h)
    have src : ∀ {H1 H2 : Hp} {j : Int}, Src H1 p j → (∀ o, H1 p = some o → H2 p = some o) → Src H2 p j := fun ⟨a, c, i, e, r⟩ h => ⟨a, c, i, h _ e, r⟩
    have np : ∀ {G : Hp} {j : Int} {b : Addr}, Src G p j → G b = none → b ≠ p := fun ⟨_, _, _, e, _⟩ h => (ne_of_none e h).symm
    -- the table
    refine fun rs G0 s0 L0 => ⟨?_, fun w hw => ?_⟩
    · rw [← L0.length]
      exact small _ (by decide)
    have lrs : rs.length = 13 := L0.length.symm
    have s1 : Same H (upd G0 w (.lst rs)) := s0.trans (Same.new hw)
    have tab : ∀ v ∈ rs, Tab H (upd G0 w (.lst rs)) v := tab_all (L0.mono (Same.refl _) (Same.new hw))
    have hw1 : (upd G0 w (.lst rs)) w = some (.lst rs) := upd_same
    have fw : H w = none := s0.free hw
    generalize upd G0 w (.lst rs) = G1 at s1 tab hw1 ⊢
    have S1 : Src G1 p k := src S0 fun o e => s1 _ _ e
    refine ⟨_, rfl, _, rfl, p, _, k, rfl, S1, by omega, by decide, by decide, fun d G2 d0 d1 S2 k2 => ?_⟩
    obtain ⟨v, hv, hm⟩ := atI_ex rs d0 (by rw [lrs]; exact d1)
    obtain ⟨r, szs, rfl, fr0, hr1, ok⟩ := tab v hm
    have hr2 : G2 r = some (.lst (szs.map fun (n : Nat) => V.int (n : Int))) := by rw [k2 r (np S0 fr0)]; exact hr1
    refine ⟨w, rs, d, _, rfl, rfl, SqL.of (by rw [k2 w (np S0 fw)]; exact hw1), hv, ?_⟩
    have g2 : ∀ b o, H b = some o → b ≠ p → G2 b = some o := fun b o e hb => by rw [k2 b hb]; exact s1 _ _ e
    obtain ⟨z3, zn, zm⟩ := ok
    -- the names
    refine ⟨_, rfl, _, rfl, r, _, rfl, .inl (SqL.of hr2), p, _, _, rfl, S2, by omega, by rw [List.length_map]; omega, by rw [List.length_map]; omega, fun l1 ks G3 e1 n1 o1 hl1 f1 S3 k3 => ⟨_, rfl, ?_⟩⟩
    rw [List.length_map] at e1
    have hr3 : G3 r = some (.lst (szs.map fun (n : Nat) => V.int (n : Int))) := k3 _ _ hr2 (np S0 fr0)
    have g3 : ∀ b o, H b = some o → b ≠ p → G3 b = some o := fun b o e hb => k3 _ _ (g2 b o e hb) hb
    have nl1 : l1 ≠ p := np S2 f1
    refine ⟨l1, r, rfl, ⟨_, SqL.of hl1⟩, ⟨_, SqL.of hr3⟩, comp_by (J := Itz K l1 r) (n := szs.length) (fun i ys G => (∀ b o, G3 b = some o → b ≠ p → G b = some o) ∧ Src G p (k + 6 + 5 * i) ∧ ∃ vss : List (List Str), vss.length = i ∧
      HasAll (fun a => H a = none) G ys (((ks.take i).zip vss).map fieldD) ∧ ∀ (j : Nat) (vs : List Str), vss[j]? = some vs → ValsOk vs ∧ szs[j]? = some vs.length) ⟨fun _ _ e _ => e, S3.mono (by omega), [], rfl, .nil, fun j vs h => by simp at h⟩ ?_ ?_ ?_ ?_ ?_⟩
    · rintro i ys G lt ⟨fr, _⟩
      exact ⟨_, _, _, _, SqL.of (fr _ _ hl1 nl1), SqL.of (fr _ _ hr3 (np S0 fr0)), List.getElem?_eq_getElem (by rw [List.length_map]; omega), List.getElem?_eq_getElem (by rw [List.length_map]; exact lt)⟩
    · rintro ys G ⟨fr, _⟩
      exact ⟨_, _, SqL.of (fr _ _ hl1 nl1), SqL.of (fr _ _ hr3 (np S0 fr0)), .inr (by rw [List.length_map]; exact Nat.le_refl _)⟩
    · rintro i ys G hi ⟨_, _, vss, hv, hh, _⟩
      have := hh.length
      rw [List.length_map, List.length_zip] at this
      exact small _ (by omega)
    · rintro i ys G x G' lt ⟨fr, S, vss, hvl, hh, ho⟩ ⟨p2, x0, y0, rfl, hp2, rfl, hx, hy⟩ N hN
      have hx' := hx _ (SqL.of (fr _ _ hl1 nl1))
      have hy' := hy _ (SqL.of (fr _ _ hr3 (np S0 fr0)))
      rw [List.getElem?_map] at hx' hy'
      obtain ⟨nk, hnk⟩ : ∃ nk, ks[i]? = some nk := ⟨_, List.getElem?_eq_getElem (by omega)⟩
      obtain ⟨sz, hsz⟩ : ∃ sz, szs[i]? = some sz := ⟨_, List.getElem?_eq_getElem lt⟩
      rw [hnk] at hx'
      rw [hsz] at hy'
      cases hx'
      cases hy'
      obtain ⟨z1, z8⟩ := zn sz (List.mem_of_getElem? hsz)
      have np2 : p2 ≠ p := np S hp2
      have s2 := Same.new (o := .tup [V.str nk, V.int (sz : Int)]) hp2
      have S' : Src (upd G p2 (.tup [V.str nk, V.int (sz : Int)])) p (k + 6 + 5 * i) := src S fun o e => s2 _ _ e
      refine pickT (SqT.of upd_same) ?_
      refine ⟨_, rfl, _, rfl, _, rfl, p, _, _, rfl, S', by omega, by omega, by omega, fun l2 vs G4 e2 n2 o2 hl2 f2 S4 k4 => ⟨by show 2 ≤ sizeLine; decide, fun t ht => hN _ _ ⟨fun b o e hb => ?_, ?_, vss ++ [vs], ?_, ?_, ?_⟩⟩⟩
      · exact (Same.new ht) _ _ (k4 _ _ (s2 _ _ (fr b o e hb)) hb)
      · exact (src S4 fun o e => (Same.new ht) _ _ e).mono (by push_cast; omega)
      · rw [List.length_append, hvl]; rfl
      · have bk : ∀ b, (upd G p2 (.tup [V.str nk, V.int (sz : Int)])) b = none → H b = none := fun b e => by
          cases z : H b with
          | none => rfl
          | some o =>
            have hb : b ≠ p := np S' e
            rw [s2 _ _ (fr _ _ (g3 _ _ z hb) hb)] at e
            cases e
        have nt : t ≠ p := np S4 ht
        have ft : H t = none := by
          cases z : H t with
          | none => rfl
          | some o =>
            rw [k4 _ _ (s2 _ _ (fr _ _ (g3 _ _ z nt) nt)) nt] at ht
            cases ht
        rw [zip_snoc hvl hnk, List.map_append]
        have onk := o1 nk (List.mem_of_getElem? hnk)
        refine HasAll.snoc (hh.frame fun b o g e => ⟨g, ?_⟩) (.tup ft upd_same (by show 2 ≤ 1000; decide) (.cons (.str nk (by omega) onk.2.1) (.cons (.lst (bk _ f2) ((Same.new ht) _ _ hl2) (by rw [List.length_map]; omega) (names_has o2)) .nil)))
        have hb : b ≠ p := by obtain ⟨_, _, _, e', _⟩ := S0; rintro rfl; rw [e'] at g; cases g
        exact (Same.new ht) _ _ (k4 _ _ (s2 _ _ e) hb)
      · intro j ws hj
        by_cases lt2 : j < vss.length
        · rw [List.getElem?_append_left lt2] at hj
          exact ho j ws hj
        · rw [List.getElem?_append_right (by omega)] at hj
          have ej : j = i := by
            have := (List.getElem?_eq_some_iff.mp hj).1
            simp only [List.length_cons, List.length_nil] at this
            omega
          subst ej
          rw [hvl, Nat.sub_self] at hj
          cases hj
          have e3 : vs.length = sz := by omega
          exact ⟨⟨by omega, by omega, n2, o2⟩, by rw [hsz, e3]⟩
    · rintro ys G ⟨fr, S, vss, hvl, hh, ho⟩ l hl
      have ek : ks.length = szs.length := by omega
      have et : ks.take szs.length = ks := by rw [← ek, List.take_length]
      rw [et] at hh
      have nl : l ≠ p := np S hl
      have fl : H l = none := by
        cases z : H l with
        | none => rfl
        | some o =>
          rw [fr _ _ (g3 _ _ z nl) nl] at hl
          cases hl
      have lz : (ks.zip vss).length = szs.length := by rw [List.length_zip]; omega
      have lys : ys.length ≤ 1000 := by
        have := hh.length
        rw [List.length_map] at this
        omega
      refine q l (ks.zip vss) _ ⟨by omega, ?_, ?_, ?_⟩ (.lst fl upd_same lys (hh.mono (Same.new hl))) ((src S fun o e => (Same.new hl) _ _ e).mono (by omega)) fun b o e hb => (Same.new hl) _ _ (fr _ _ (g3 _ _ e hb) hb)
      · rw [List.map_fst_zip (by omega)]
        exact n1
      · intro f hf
        obtain ⟨j, hj⟩ := List.getElem?_of_mem hf
        have hj' := List.getElem?_zip_eq_some.mp (show (ks.zip vss)[j]? = some (f.1, f.2) from hj)
        exact ⟨o1 _ (List.mem_of_getElem? hj'.1), (ho j f.2 hj'.2).1⟩
      · unfold manyOf
        rw [many_eq]
        have em : (ks.zip vss).map (·.2.length) = szs := by
          apply List.ext_getElem?
          intro j
          rw [List.getElem?_map]
          cases q1 : (ks.zip vss)[j]? with
          | none =>
            have := List.getElem?_eq_none_iff.mp q1
            exact (List.getElem?_eq_none_iff.mpr (by omega)).symm
          | some f =>
            have hj' := List.getElem?_zip_eq_some.mp (show (ks.zip vss)[j]? = some (f.1, f.2) from q1)
            rw [(ho j f.2 hj'.2).2]
            rfl
        rw [em]
        exact zm
end
end L2.W
-- MOD K7E
namespace L2.W
open PySem My
theorem strsOf_map : ∀ ks : List Str, strsOf (ks.map PyData.str) = ks
  | [] => rfl
  | k :: r => by
    show k :: strsOf (r.map PyData.str) = k :: r
    rw [strsOf_map r]
theorem unlike_of {ks : List Str} (h : ∀ x ∈ ks, nameB x = true) (nd : ks.Nodup) : unlikeB (ks.map PyData.str) = true := by
  unfold unlikeB
  rw [strsOf_map, decide_eq_true nd, Bool.and_true, List.all_eq_true]
  intro d hd
  obtain ⟨x, hx, rfl⟩ := List.mem_map.mp hd
  exact h x hx
theorem fields_ok {fs : List (Str × List Str)} (ok : FieldsOk fs) : fieldsB (.list (fs.map fieldD)) = true ∧ countD (fs.map fieldD) ≤ 8 := by
  constructor
  · show ((fs.map fieldD).all pairB && unlikeB ((fs.map fieldD).map firstD)) = true
    have e1 : (fs.map fieldD).all pairB = true := by
      rw [List.all_eq_true]
      intro d hd
      obtain ⟨f, hf, rfl⟩ := List.mem_map.mp hd
      obtain ⟨_, v⟩ := ok.ok f hf
      show (decide (0 < (f.2.map PyData.str).length) && unlikeB (f.2.map PyData.str)) = true
      rw [List.length_map, decide_eq_true v.ne, unlike_of (fun x hx => (v.ok x hx).1) v.nd]
      rfl
    have e2 : (fs.map fieldD).map firstD = (fs.map (·.1)).map PyData.str := by
      rw [List.map_map, List.map_map]
      rfl
    rw [e1, e2, unlike_of _ ok.nd]
    · rfl
    · intro x hx
      obtain ⟨f, hf, rfl⟩ := List.mem_map.mp hx
      exact (ok.ok f hf).1.1
  · have key : ∀ (l : List (Str × List Str)) (m : Nat), (l.map fieldD).foldl (fun (m : Int) d => m * (sizeD d : Int)) (m : Int) = ((l.foldl (fun m f => m * f.2.length) m : Nat) : Int) := by
      intro l
      induction l with
      | nil => intro m; rfl
      | cons f r ih =>
        intro m
        rw [List.map_cons, List.foldl_cons, List.foldl_cons, ← ih]
        have : sizeD (fieldD f) = f.2.length := by
          show (f.2.map PyData.str).length = _
          rw [List.length_map]
        rw [this, Int.natCast_mul]
    have k1 := key fs 1
    have k2 := ok.many
    unfold countD
    unfold manyOf at k2
    have k3 : ((1 : Nat) : Int) = 1 := rfl
    rw [k3] at k1
    rw [k1]
    omega
/-! ### kinds in their order, as rows of names -/
structure Row where
  name : Str
  fields : List (Str × List Str)
  owner : Option Str
structure RowsOk (rs : List Row) : Prop where
  ne : 0 < rs.length
  le : rs.length ≤ 5
  nd : (rs.map (·.name)).Nodup
  ok : ∀ r ∈ rs, nameOk r.name ∧ FieldsOk r.fields
  own : ∀ (i : Nat) (r : Row) (o : Str), rs[i]? = some r → r.owner = some o → ∃ (j : Nat) (r' : Row), j < i ∧ rs[j]? = some r' ∧ r'.name = o
noncomputable def Ready (done : List Str) (r : Row) : Prop := r.name ∉ done ∧ ∀ o, r.owner = some o → o ∈ done
noncomputable def Greedy (M : Row → Prop) (ord : List Str) : Prop := ∀ (i : Nat) (n : Str), ord[i]? = some n → (∃ r, M r ∧ r.name = n ∧ Ready (ord.take i) r) ∧ ∀ r, M r → Ready (ord.take i) r → ¬ ltS r.name n
theorem ltS_eq {a b : Str} (x : ¬ ltS a b) (y : ¬ ltS b a) : a = b := by
  have h1 : b.cps.toList ≤ a.cps.toList := x
  have h2 : a.cps.toList ≤ b.cps.toList := y
  have e := List.le_antisymm h2 h1
  obtain ⟨⟨la⟩⟩ := a
  obtain ⟨⟨lb⟩⟩ := b
  simp at e
  rw [e]
theorem Greedy.nil {M : Row → Prop} : Greedy M [] := fun i n h => by simp at h
theorem Greedy.snoc {M : Row → Prop} {ord : List Str} {n : Str} (g : Greedy M ord) (h1 : ∃ r, M r ∧ r.name = n ∧ Ready ord r) (h2 : ∀ r, M r → Ready ord r → ¬ ltS r.name n) : Greedy M (ord ++ [n]) := by
  intro i m e
  by_cases hi : i < ord.length
  · have e' : ord[i]? = some m := by rwa [List.getElem?_append_left hi] at e
    have t : (ord ++ [n]).take i = ord.take i := List.take_append_of_le_length (Nat.le_of_lt hi)
    rw [t]
    exact g i m e'
  · have hi2 : i = ord.length := by
      have := (List.getElem?_eq_some_iff.mp e).1
      simp at this
      omega
    subst hi2
    have : n = m := by simpa using e
    subst this
    have t : (ord ++ [n]).take ord.length = ord := by simp
    rw [t]
    exact ⟨h1, h2⟩
theorem Greedy.nodup {M : Row → Prop} {ord : List Str} (g : Greedy M ord) : ord.Nodup := by
  suffices h : ∀ k, (ord.take k).Nodup by
    have := h ord.length
    rwa [List.take_length] at this
  intro k
  induction k with
  | zero => simp
  | succ k ih =>
    cases e : ord[k]? with
    | none => rw [List.take_add_one, e]; simpa using ih
    | some n =>
      obtain ⟨⟨r, _, e1, r1⟩, _⟩ := g k n e
      rw [List.take_add_one, e]
      refine List.nodup_append.mpr ⟨ih, by simp, fun a ha b hb => ?_⟩
      have : b = n := by simpa using hb
      rw [this]
      rintro rfl
      exact r1.1 (e1 ▸ ha)
theorem Greedy.mem {M : Row → Prop} {ord : List Str} (g : Greedy M ord) {n : Str} (h : n ∈ ord) : ∃ r, M r ∧ r.name = n := by
  obtain ⟨i, hi, e⟩ := List.getElem_of_mem h
  obtain ⟨⟨r, m, e1, _⟩, _⟩ := g i n (by rw [List.getElem?_eq_getElem hi, e])
  exact ⟨r, m, e1⟩
theorem sub_len {α : Type} [DecidableEq α] : ∀ {a b : List α}, a.Nodup → (∀ x ∈ a, x ∈ b) → a.length ≤ b.length
  | [], _, _, _ => Nat.zero_le _
  | x :: r, b, nd, h => by
    have hx := h x List.mem_cons_self
    obtain ⟨n1, n2⟩ := List.nodup_cons.mp nd
    have := sub_len (a := r) (b := b.erase x) n2 fun y hy => (List.mem_erase_of_ne (by rintro rfl; exact n1 hy)).mpr (h y (List.mem_cons_of_mem _ hy))
    rw [List.length_erase_of_mem hx] at this
    have := List.length_pos_of_mem hx
    simp
    omega
theorem Greedy.le {rs : List Row} {ord : List Str} (g : Greedy (· ∈ rs) ord) : ord.length ≤ rs.length := by
  have := sub_len (b := rs.map (·.name)) g.nodup fun n hn => by
    obtain ⟨r, m, e⟩ := g.mem hn
    exact List.mem_map.mpr ⟨r, m, e⟩
  rwa [List.length_map] at this
theorem progress {rs : List Row} (ok : RowsOk rs) {ord : List Str} (h : ord.length < rs.length) : ∃ r ∈ rs, Ready ord r := by
  have ex : ∃ (i : Nat) (r : Row), rs[i]? = some r ∧ r.name ∉ ord := Classical.byContradiction fun hn => by
    have := sub_len (b := ord) ok.nd fun n hm => by
      obtain ⟨r, hr, rfl⟩ := List.mem_map.mp hm
      obtain ⟨i, hi, e⟩ := List.getElem_of_mem hr
      exact Classical.byContradiction fun k => hn ⟨i, r, by rw [List.getElem?_eq_getElem hi, e], k⟩
    rw [List.length_map] at this
    omega
  obtain ⟨i, r, hi, hr⟩ := ex
  revert r
  induction i using Nat.strongRecOn with
  | _ i ih =>
    intro r hi hr
    by_cases c : ∀ o, r.owner = some o → o ∈ ord
    · exact ⟨r, List.mem_of_getElem? hi, hr, c⟩
    · have : ∃ o, r.owner = some o ∧ o ∉ ord := Classical.byContradiction fun k => c fun o e => Classical.byContradiction fun m => k ⟨o, e, m⟩
      obtain ⟨o, e, no⟩ := this
      obtain ⟨j, r', hj, e1, e2⟩ := ok.own i r o hi e
      exact ih j hj r' e1 (by rw [e2]; exact no)
theorem RowsOk.one {rs : List Row} (ok : RowsOk rs) {r r' : Row} (h : r ∈ rs) (h' : r' ∈ rs) (e : r.name = r'.name) : r = r' := by
  obtain ⟨i, hi, ei⟩ := List.getElem_of_mem h
  obtain ⟨j, hj, ej⟩ := List.getElem_of_mem h'
  have a : (rs.map (·.name))[i]? = some r.name := by simp [List.getElem?_eq_getElem hi, ei]
  have b : (rs.map (·.name))[j]? = some r.name := by simp [List.getElem?_eq_getElem hj, ej, e]
  have := nodup_at ok.nd a b
  subst this
  rw [← ei, ← ej]
theorem RowsOk.owner {rs : List Row} (ok : RowsOk rs) {r : Row} {o : Str} (h : r ∈ rs) (e : r.owner = some o) : nameOk o ∧ o ≠ r.name ∧ ∃ r' ∈ rs, r'.name = o := by
  obtain ⟨i, hi, ei⟩ := List.getElem_of_mem h
  have gi : rs[i]? = some r := by rw [List.getElem?_eq_getElem hi, ei]
  obtain ⟨j, r', hj, e1, rfl⟩ := ok.own i r o gi e
  have m := List.mem_of_getElem? e1
  refine ⟨(ok.ok r' m).1, fun k => ?_, r', m, rfl⟩
  have a : (rs.map (·.name))[i]? = some r.name := by simp [gi]
  have b : (rs.map (·.name))[j]? = some r.name := by simp [e1, k]
  have := nodup_at ok.nd a b
  omega
end L2.W
-- MOD K7F
namespace L2.W
open PySem My
/-! ### kinds as things: are_kinds, placed_by_owners -/
structure KIsi (K : PySem.W.Frag) (C : Addr) : Prop where
  ha : PySem.W.findIn K (.ref C) "__class__" = some (some (.builtin "object.__class__"))
  hn : PySem.W.specialIn K (.builtin "object.__class__") "__get__" = some (some (.builtin "getset_descriptor.__get__"))
  htk : PySem.W.takesIn K (.builtin "object.__class__") = some true
  hm : PySem.W.mroIn K C (.type "object") = some true
  one : PySem.W.kitOne K (.ref C) (.ref C) = some true
noncomputable def ownV : Option Str → V
  | none => .non
  | some o => .str o
noncomputable def KindO (C : Addr) (H : Hp) (p : Addr) (r : Row) : Prop := ∃ dx l, H p = some (.ins C dx (kflds (.str r.name) (.ref l) (ownV r.owner)))
noncomputable abbrev KL (C : Addr) (H : Hp) : List Addr → List Row → Prop := Paired fun p r => KindO C H p r
theorem paired_get {α β : Type} {R : α → β → Prop} : ∀ {l : List α} {m : List β} {i : Nat} {a : α}, Paired R l m → l[i]? = some a → ∃ b, m[i]? = some b ∧ R a b
  | _, _, _, _, .nil, e => by simp at e
  | _, _, 0, a, .cons r _, e => by
    simp at e
    subst e
    exact ⟨_, rfl, r⟩
  | _, _, i + 1, a, .cons _ t, e => by
    obtain ⟨b, h1, h2⟩ := paired_get (i := i) (a := a) t (by simpa using e)
    exact ⟨b, by simpa using h1, h2⟩
theorem KindO.mono {C : Addr} {H H' : Hp} {p : Addr} {r : Row} (h : KindO C H p r) (k : ∀ b o, H b = some o → (∃ C dx fs, o = .ins C dx fs) → H' b = some o) : KindO C H' p r := by
  obtain ⟨dx, l, e⟩ := h
  exact ⟨dx, l, k _ _ e ⟨_, _, _, rfl⟩⟩
noncomputable def RowsP (rs : List Row) : Prop := ∃ rs0, RowsOk rs0 ∧ rs.Perm rs0
theorem RowsP.nd {rs : List Row} (h : RowsP rs) : (rs.map (·.name)).Nodup := by
  obtain ⟨r0, ok, p⟩ := h
  exact (p.map _).nodup_iff.mpr ok.nd
theorem RowsP.le {rs : List Row} (h : RowsP rs) : 0 < rs.length ∧ rs.length ≤ 5 := by
  obtain ⟨r0, ok, p⟩ := h
  have := p.length_eq
  have := ok.ne
  have := ok.le
  omega
theorem RowsP.ok {rs : List Row} (h : RowsP rs) : ∀ r ∈ rs, nameOk r.name ∧ FieldsOk r.fields := by
  obtain ⟨r0, ok, p⟩ := h
  exact fun r hr => ok.ok r (p.mem_iff.mp hr)
theorem RowsP.progress {rs : List Row} (h : RowsP rs) {ord : List Str} (hl : ord.length < rs.length) : ∃ r ∈ rs, Ready ord r := by
  obtain ⟨r0, ok, p⟩ := h
  obtain ⟨r, hr, q⟩ := L2.W.progress ok (ord := ord) (by rw [← p.length_eq]; exact hl)
  exact ⟨r, p.mem_iff.mpr hr, q⟩
noncomputable def spAreKinds (C : Addr) : Sp := fun vs H Q _ => ∃ (l : Addr) (ps : List Addr) (rs : List Row), vs = [.ref l] ∧ H l = some (.lst (ps.map V.ref)) ∧ KL C H ps rs ∧ RowsP rs ∧ ∀ H', Same H H' → Q (.bl true) H'
section
variable {P : Program} {w : World} {K : PySem.W.Frag} {mg : Str → Option Value} {base : Heap} {CX : CXT}
theorem scAk : FnScope ["things"] ["things"] (defScope sAreKinds) := ⟨rfl, rfl, rfl, by decide +kernel, rfl, by decide +kernel, by decide +kernel⟩
theorem ok_areKinds {f fu fn C fI : Addr} {fd fdu fdn : FuncData} (hC : Calm CX) (T : Tops K mg) (KC : KCls K mg C fI) (KI : KIsi K C) (F : Fun K "are_kinds" "are_kinds" sAreKinds f fd) (DN : Def K mg "is_name" sIsName ["thing"] fn fdn)
    (DU : Def K mg "are_unlike_names" sUnlike ["things"] fu fdu) : FnOk P w K mg base CX 3 f fd ["things"] (spAreKinds C) := by
  have GU : FnOk P w K mg base CX 2 fu fdu ["things"] spUnlike := ok_unlike hC T DU.fn DN
  refine Fun.okC F scAk (fun vs H Q E h => ?_) (fun cdv A outer s H vs Q E hr h => ?_)
  · obtain ⟨l, ps, rs, rfl, _⟩ := h
    rfl
  · obtain ⟨l, ps, rs, rfl, hl, hk, rp, k⟩ := h
    refine ⟨_, pss_cons (ps_if (PW.pt (pw_or (pt_not (pt_val (pe_callB call_isinst rfl T.isinst PyProof.Rows.boot_isinstance (pa_cons (pv 0) (pa_cons (pe_bltn (v := .ty "list") rfl T.list PyProof.Rows.boot_list rfl) pa_nil)))))
        (pw_or1 (pt_cmpR op_eq (pe_callB call_len_seq rfl T.len PySem.boot_len (pa_cons (pv 0) pa_nil)) pe_int (nomark _))))) (pss_one (ps_ret pe_bl)) pss_nil)
      (pss_cons (ps_if (pt_not (pt_val (pe_callB (call_all rfl) rfl T.all PyProof.Rows.boot_all (pa_cons (pe_comp (T := ["thing"]) rfl ScOk.auto (pi_list (pv 0)) (fun _ _ _ _ => pg_name (i := 1) (by decide +kernel : (["things", "thing"] : List Str).Nodup) rfl (Or.inl rfl)) (fun _ _ _ _ => pf_nil)
        (fun _ _ _ _ => pe_callB (call_isinstK (K := K) rfl) rfl T.isinst PyProof.Rows.boot_isinstance (pa_cons (pv 1) (pa_cons (pe_glob (v := .ref C) rfl KC.mgC rfl) pa_nil)))) pa_nil)))) (pss_one (ps_ret pe_bl)) pss_nil)
      (pss_one (ps_ret (pe_call GU hr rfl DU.at_ DU.fn.kp DU.bind .nil (passC hC) (pa_cons (pe_comp (T := ["kind"]) rfl ScOk.auto (pi_list (pv 0)) (fun _ _ _ _ => pg_name (i := 1) (by decide +kernel : (["things", "kind"] : List Str).Nodup) rfl (Or.inl rfl)) (fun _ _ _ _ => pf_nil)
        (fun _ _ _ _ => pe_fldK (K := K) rfl (pv 1) rfl)) pa_nil))))), ?_⟩
    have len : ps.length = rs.length := Paired.length hk
    obtain ⟨l0, l5⟩ := rp.le
    have small : ∀ n : Nat, n ≤ 1000 → n ≤ sizeLine := fun n h => Nat.le_of_lt (small1000 h)
    refine ⟨_, rfl, _, _, _, _, _, rfl, .lst hl, rfl, rfl, _, rfl, iteF ?_⟩
    refine ⟨_, rfl, l, _, rfl, .inl (SqL.of hl), rfl, _, rfl, ?_⟩
    rw [decide_eq_false (show ¬ V.int ((ps.map V.ref).length : Int) = V.int 0 by intro z0; injection z0 with z0; rw [List.length_map] at z0; omega)]
    refine iteF ?_
    refine ⟨_, rfl, l, rfl, ⟨_, SqL.of hl⟩, comp_list (xs := ps.map V.ref) (fun i ys H' => H = H' ∧ ys = (List.replicate i true).map V.bl) ⟨rfl, rfl⟩ (fun i ys H' p => by rw [← p.1]; exact SqL.of hl) (fun i ys H' hi p => ?_) ?_ ?_⟩
    · rw [p.2, List.length_map, List.length_replicate]
      rw [List.length_map] at hi
      exact small _ (by omega)
    · rintro i x ys H' hi ⟨rfl, rfl⟩ N hN
      rw [List.getElem?_map] at hi
      cases ep : ps[i]? with
      | none => rw [ep] at hi; cases hi
      | some p =>
        rw [ep] at hi
        cases hi
        obtain ⟨r, er, dx, lf, e⟩ := paired_get hk ep
        refine pick ?_
        refine ⟨_, rfl, _, _, _, _, _, rfl, .ins e KC.cl KI.ha KI.hn KI.htk KI.hm, rfl, KI.one, hN _ _ ⟨rfl, ?_⟩⟩
        rw [List.replicate_succ', List.map_append]
        rfl
    · rintro ys H' ⟨rfl, rfl⟩ q hq
      rw [List.length_map]
      have s1 : Same H (upd H q (.lst ((List.replicate ps.length true).map V.bl))) := Same.new hq
      refine ⟨q, List.replicate ps.length true, rfl, SqL.of upd_same, _, rfl, ?_⟩
      have ea : (List.replicate ps.length true).all id = true := by simp
      rw [ea]
      refine iteF ?_
      generalize upd H q (.lst ((List.replicate ps.length true).map V.bl)) = H2 at s1 ⊢
      refine ⟨_, rfl, l, rfl, ⟨_, SqL.of (s1 _ _ hl)⟩, comp_list (xs := ps.map V.ref) (fun i ys H' => H2 = H' ∧ ys = ((rs.take i).map (·.name)).map V.str) ⟨rfl, rfl⟩ (fun i ys H' p => by rw [← p.1]; exact SqL.of (s1 _ _ hl)) (fun i ys H' hi p => ?_) ?_ ?_⟩
      · rw [p.2, List.length_map, List.length_map]
        have : (rs.take i).length ≤ rs.length := by rw [List.length_take]; omega
        exact small _ (by omega)
      · rintro i x ys H' hi ⟨rfl, rfl⟩ N hN
        rw [List.getElem?_map] at hi
        cases ep : ps[i]? with
        | none => rw [ep] at hi; cases hi
        | some p =>
          rw [ep] at hi
          cases hi
          obtain ⟨r, er, dx, lf, e⟩ := paired_get hk ep
          refine pick ?_
          refine ⟨_, rfl, p, C, dx, _, _, rfl, s1 _ _ e, KC.cl, KC.nN, kf_name _ _ _, hN _ _ ⟨rfl, ?_⟩⟩
          rw [List.take_add_one, er, List.map_append, List.map_append]
          rfl
      · rintro ys H' ⟨rfl, rfl⟩ q2 hq2
        rw [List.length_map, len, List.take_length]
        refine ⟨_, (rs.map (·.name)).map PyData.str, rfl, .lst trivial upd_same (by rw [List.length_map, List.length_map]; omega) (names_has fun x hx => ?_), fun H4 s4 => ?_⟩
        · obtain ⟨r, hr, rfl⟩ := List.mem_map.mp hx
          exact (rp.ok r hr).1
        · rw [unlike_of (fun x hx => ?_) rp.nd]
          · exact k _ (s1.trans ((Same.new hq2).trans s4))
          · obtain ⟨r, hr, rfl⟩ := List.mem_map.mp hx
            exact (rp.ok r hr).1.1
end
end L2.W
-- MOD K7G
namespace L2.W
open PySem My
/-! ### placed_by_owners -/
noncomputable def lamPos : Pos := ⟨63, 31, 63, 53⟩
noncomputable def lamQ : Str := (("placed_by_owners" : Str) ++ ".<locals>.") ++ "<lambda>"
noncomputable def readyB (done : List Str) (r : Row) : Bool := decide (r.name ∉ done) && (match r.owner with | none => true | some o => decide (o ∈ done))
theorem readyB_iff {done : List Str} {r : Row} : readyB done r = true ↔ Ready done r := by
  unfold readyB Ready
  cases r.owner with
  | none => simp
  | some o => simp
noncomputable abbrev Placed (zs : List (Addr × Row)) : List Str → List (Key × V) → Prop := Paired fun n kv => ∃ q ∈ zs, kv = (Sum.inr n, V.ref q.1) ∧ q.2.name = n
theorem Placed.val {zs : List (Addr × Row)} : ∀ {ord : List Str} {kvs : List (Key × V)}, Placed zs ord kvs → ∀ n : Str, (valV kvs (Sum.inr n)).isSome = decide (n ∈ ord)
  | _, _, .nil, n => by simp [valV]
  | m :: ord, kv :: kvs, .cons r t, n => by
    obtain ⟨q, _, rfl, e⟩ := r
    by_cases c : m = n
    · rw [valV_pos (by rw [c])]
      simp [c]
    · rw [valV_neg (by intro z; exact c (Sum.inr.inj z)), Placed.val t n]
      simp [Ne.symm c]
theorem Placed.get {zs : List (Addr × Row)} : ∀ {ord : List Str} {kvs : List (Key × V)}, Placed zs ord kvs → ∀ n : Str, n ∈ ord → ∃ q ∈ zs, valV kvs (Sum.inr n) = some (V.ref q.1) ∧ q.2.name = n
  | _, _, .nil, n, h => by cases h
  | m :: ord, kv :: kvs, .cons r t, n, h => by
    obtain ⟨q, hq, rfl, e⟩ := r
    by_cases c : m = n
    · exact ⟨q, hq, valV_pos (by rw [c]), e.trans c⟩
    · rcases List.mem_cons.mp h with h | h
      · exact absurd h.symm c
      · obtain ⟨q', h1, h2, h3⟩ := Placed.get t n h
        exact ⟨q', h1, by rw [valV_neg (by intro z; exact c (Sum.inr.inj z))]; exact h2, h3⟩
theorem paired_snoc {α β : Type} {R : α → β → Prop} : ∀ {l : List α} {m : List β} {a : α} {b : β}, Paired R l m → R a b → Paired R (l ++ [a]) (m ++ [b])
  | _, _, _, _, .nil, r => .cons r .nil
  | _, _, _, _, .cons r t, q => .cons r (paired_snoc t q)
theorem putK_new {kvs : List (Key × V)} {k : Key} {v : V} (h : (valV kvs k).isSome = false) : putK kvs k v = kvs ++ [(k, v)] := by
  unfold putK
  rw [valV_any, h]
  rfl
structure Zs (C : Addr) (H : Hp) (zs : List (Addr × Row)) : Prop where
  at_ : ∀ q ∈ zs, KindO C H q.1 q.2
  nd : (zs.map fun q => q.2.name).Nodup
  le : zs.length ≤ 50
theorem Zs.mono {C : Addr} {H H' : Hp} {zs : List (Addr × Row)} (z : Zs C H zs) (k : ∀ b o, H b = some o → (∃ C dx fs, o = .ins C dx fs) → H' b = some o) : Zs C H' zs := ⟨fun q hq => (z.at_ q hq).mono k, z.nd, z.le⟩
noncomputable def spPlaced (C Pt : Addr) : Sp := fun vs H Q _ => ∃ (l : Addr) (zs : List (Addr × Row)), vs = [.ref l] ∧ H l = some (.lst (zs.map fun q => V.ref q.1)) ∧ Zs C H zs ∧ TabOk H Pt lamPos lamQ ∧
  ∀ (d : Addr) (ord : List Str) (kvs : List (Key × V)) (H' : Hp), H d = none → H' d = some (.dK kvs) → Placed zs ord kvs → Greedy (· ∈ zs.map (·.2)) ord → (∀ r ∈ zs.map (·.2), ¬ Ready ord r) → TabOk H' Pt lamPos lamQ → GrownBut Pt H H' → Q (.ref d) H'
theorem _root_.L2.GrownBut.trans {P : Addr} {a b c : Hp} (x : GrownBut P a b) (y : GrownBut P b c) : GrownBut P a c := fun p o e n => y p o (x p o e n) n
theorem _root_.L2.GrownBut.same {P : Addr} {a b : Hp} (x : Same a b) : GrownBut P a b := fun p o e _ => x p o e
theorem _root_.L2.TabOk.same {H H' : Hp} {P : Addr} {pos : Pos} {q : Str} (T : TabOk H P pos q) (k : Same H H') : TabOk H' P pos q := T.stay k
theorem _root_.L2.TabOk.upd {H : Hp} {P : Addr} {pos : Pos} {q : Str} {p : Addr} {u o : HO} (T : TabOk H P pos q) (hp : H p = some u) (h1 : ∀ ps, u ≠ .tbl ps) (h2 : ∀ f, u ≠ .ext f) : TabOk (upd H p o) P pos q :=
  T.but hp h1 h2 fun b x e nb => by rw [upd_ne nb]; exact e
theorem filter_snoc {zs : List (Addr × Row)} {i : Nat} {q : Addr × Row} (p : Addr × Row → Bool) (h : zs[i]? = some q) : (zs.take (i + 1)).filter p = if p q = true then (zs.take i).filter p ++ [q] else (zs.take i).filter p := by
  rw [List.take_add_one, h, List.filter_append]
  cases e : p q <;> simp [e]
section
variable {P : Program} {w : World} {K : PySem.W.Frag} {mg : Str → Option Value} {base : Heap} {CX : CXT}
theorem scPl : FnScope ["kinds", "placed", "ready", "first"] ["kinds"] (defScope sPlaced) := ⟨rfl, rfl, rfl, by decide +kernel, rfl, by decide +kernel, by decide +kernel⟩
theorem ok_placed {f C fI c Pt : Addr} {fd : FuncData} (hC : Calm CX) (T : Tops K mg) (KC : KCls K mg C fI) (LT : LamTxt K mg base c Pt) (F : FunL K "placed_by_owners" "placed_by_owners" sPlaced f fd c) : FnOk P w K mg base CX 4 f fd ["kinds"] (spPlaced C Pt) := by
  refine FunL.okC F scPl (fun vs H Q E h => ?_) (fun A outer s H vs Q E hr h => ?_)
  · obtain ⟨l, zs, rfl, _⟩ := h
    rfl
  · obtain ⟨l, zs, rfl, hl, hz, hT, k⟩ := h
    have nd := scPl.nd
    have hr2 := hr.mono (show 2 ≤ 3 by decide)
    have hu := hu_of hr
    refine ⟨_, pss_cons (ps_set (i := 1) nd rfl (Or.inr rfl) pe_dnewK)
      (pss_cons (ps_setComp (T := ["kind"]) (i := 2) rfl ScOk.auto (pi_list (pv 0)) (fun _ _ _ _ => pg_name (i := 4) (by decide +kernel : (["kinds", "placed", "ready", "first", "kind"] : List Str).Nodup) rfl (Or.inl rfl))
        (fun _ _ _ _ => pf_one (pt_cmp (pc_isN (pe_fldK (K := K) rfl (pv 4) rfl)))) (fun _ _ _ _ => pv 4) nd rfl rfl rfl)
      (pss_cons (ps_while PassesOwn.never (pt_truth (pv 2) (fun _ => rfl))
        (pss_cons (ps_set (i := 3) nd rfl (Or.inl rfl) (pe_minKey LT rfl hr2 rfl rfl T.min (pa_cons (pv 2) pa_nil) (by exact ⟨rfl, rfl, rfl, by decide +kernel, rfl⟩)))
        (pss_cons (ps_dput hu (pv 1) (pe_fld (pv 3) rfl) (pv 3) rfl)
        (pss_one (ps_setComp (T := ["kind"]) (i := 2) rfl ScOk.auto (pi_list (pv 0)) (fun _ _ _ _ => pg_name (i := 4) (by decide +kernel : (["kinds", "placed", "ready", "first", "kind"] : List Str).Nodup) rfl (Or.inl rfl))
          (fun _ _ _ _ => pf_one (PW.pt (pw_and (pt_cmp (pc_dnotin hu (pe_fldK (K := K) rfl (pv 4) rfl) (pv 1))) (pw_and1 (PW.pt (pw_or (pt_cmp (pc_isN (pe_fldK (K := K) rfl (pv 4) rfl))) (pw_or1 (pt_cmp (pc_din hu (pe_fldK (K := K) rfl (pv 4) rfl) (pv 1)))))))))) (fun _ _ _ _ => pv 4) nd rfl rfl rfl)))))
      (pss_one (ps_ret (pv 1))))), ?_⟩
    have small : ∀ n : Nat, n ≤ 1000 → n ≤ sizeLine := fun n h => Nat.le_of_lt (small1000 h)
    have flen : ∀ (p : Addr × Row → Bool) (i : Nat), ((zs.take i).filter p).length ≤ 50 := fun p i => by
      have h1 := List.length_filter_le p (zs.take i)
      have h2 : (zs.take i).length ≤ zs.length := by rw [List.length_take]; omega
      have := hz.le
      omega
    intro d hd
    have g0 : Same H (upd H d (.dK [])) := Same.new hd
    have e0 : (upd H d (.dK [])) d = some (.dK []) := upd_same
    generalize upd H d (.dK []) = H0 at g0 e0 ⊢
    refine ⟨_, rfl, l, rfl, ⟨_, SqL.of (g0 _ _ hl)⟩, comp_list (xs := zs.map fun q => V.ref q.1) (fun i ys H' => H0 = H' ∧ ys = ((zs.take i).filter (fun q => readyB [] q.2)).map fun q => V.ref q.1) ⟨rfl, rfl⟩ (fun i ys H' p => by rw [← p.1]; exact SqL.of (g0 _ _ hl)) (fun i ys H' hi p => ?_) ?_ ?_⟩
    · rw [p.2, List.length_map]
      exact small _ (Nat.le_trans (flen _ i) (by decide))
    · rintro i x ys H' hi ⟨rfl, rfl⟩ N hN
      rw [List.getElem?_map] at hi
      cases ep : zs[i]? with
      | none => rw [ep] at hi; cases hi
      | some q =>
        rw [ep] at hi
        cases hi
        obtain ⟨dx, lf, e⟩ := hz.at_ q (List.mem_of_getElem? ep)
        refine ⟨_, rfl, q.1, C, dx, _, _, rfl, g0 _ _ e, KC.cl, KC.nO, kf_owner _ _ _, _, rfl, ?_⟩
        cases eo : q.2.owner with
        | none =>
          refine iteT ⟨_, rfl, hN _ _ ⟨rfl, ?_⟩⟩
          rw [filter_snoc _ ep, if_pos (by simp [readyB, eo]), List.map_append]
          rfl
        | some o =>
          refine iteF (hN _ _ ⟨rfl, ?_⟩)
          rw [filter_snoc _ ep, if_neg (by simp [readyB, eo])]
    · rintro ys H' ⟨rfl, rfl⟩ lr hlr
      rw [List.length_map, List.take_length]
      have g1 : Same H (upd H0 lr (.lst ((zs.filter fun q => readyB [] q.2).map fun q => V.ref q.1))) := g0.trans (Same.new hlr)
      have e1 := (Same.new (o := .lst ((zs.filter fun q => readyB [] q.2).map fun q => V.ref q.1)) hlr) _ _ e0
      refine ⟨fun m σ H2 => ∃ ord kvs lr x, m = zs.length - ord.length ∧ σ = [some (.ref l), some (.ref d), some (.ref lr), x] ∧ H2 d = some (.dK kvs) ∧ Placed zs ord kvs ∧ Greedy (· ∈ zs.map (·.2)) ord ∧
        H2 lr = some (.lst ((zs.filter fun q => readyB ord q.2).map fun q => V.ref q.1)) ∧ TabOk H2 Pt lamPos lamQ ∧ GrownBut Pt H H2, ⟨_, [], [], lr, none, rfl, rfl, e1, .nil, .nil, upd_same, hT.same g1, .same g1⟩, ?_⟩
      clear g1 e1 hlr e0 g0
      rintro m σ H2 ⟨ord, kvs, lr, x, rfl, rfl, hd2, hpl, hgr, hlr, hT2, hG⟩
      have hk2 : ∀ q ∈ zs, ∃ dx lf, H2 q.1 = some (.ins C dx (kflds (.str q.2.name) (.ref lf) (ownV q.2.owner))) := fun q hq => by
        obtain ⟨dx, lf, e⟩ := hz.at_ q hq
        exact ⟨dx, lf, hG _ _ e (hT.ne e fun _ z => nomatch z)⟩
      refine ⟨_, rfl, _, .inl ⟨_, SqL.of hlr, rfl⟩, ?_⟩
      generalize ets : (zs.filter fun q => readyB ord q.2) = ts at hlr ⊢
      have mts : ∀ q, q ∈ ts ↔ q ∈ zs ∧ Ready ord q.2 := fun q => by rw [← ets, List.mem_filter, readyB_iff]
      by_cases c : ts = []
      · subst c
        refine iteF ⟨_, rfl, k d ord kvs H2 hd hd2 hpl hgr (fun r hr z => ?_) hT2 hG⟩
        obtain ⟨q, hq, rfl⟩ := List.mem_map.mp hr
        have := (mts q).mpr ⟨hq, z⟩
        cases this
      · have pos : 0 < ts.length := List.length_pos_iff.mpr c
        rw [show (!(ts.map fun q => V.ref q.1).isEmpty) = true by cases ts with | nil => exact absurd rfl c | cons _ _ => rfl]
        refine iteT ?_
        refine ⟨fun σ' H' => ∃ m', m' < zs.length - ord.length ∧ ∃ ord kvs lr x, m' = zs.length - ord.length ∧ σ' = [some (.ref l), some (.ref d), some (.ref lr), x] ∧ H' d = some (.dK kvs) ∧ Placed zs ord kvs ∧ Greedy (· ∈ zs.map (·.2)) ord ∧
          H' lr = some (.lst ((zs.filter fun q => readyB ord q.2).map fun q => V.ref q.1)) ∧ TabOk H' Pt lamPos lamQ ∧ GrownBut Pt H H', fun _ _ h => h, ?_⟩
        refine ⟨_, rfl, lr, _, ts.map (·.2.name), rfl, SqL.of hlr, (by rw [List.length_map]; exact pos), hT2, (by rw [List.length_map, List.length_map]), fun i v kx hi hk => ?_, fun i v kx H3 hi hk hbest hT3 hG3 => ?_⟩
        · rw [List.getElem?_map] at hi hk
          cases ep : ts[i]? with
          | none => rw [ep] at hi; cases hi
          | some q =>
            rw [ep] at hi hk
            cases hi
            cases hk
            obtain ⟨dx, lf, e⟩ := hk2 q ((mts q).mp (List.mem_of_getElem? ep)).1
            exact ⟨q.1, C, dx, _, rfl, e, KC.cl, KC.nN, kf_name _ _ _⟩
        · rw [List.getElem?_map] at hi hk
          cases ep : ts[i]? with
          | none => rw [ep] at hi; cases hi
          | some q =>
            rw [ep] at hi hk
            cases hi
            cases hk
            obtain ⟨hq, hrd⟩ := (mts q).mp (List.mem_of_getElem? ep)
            have hG3' := hG.trans hG3
            have hk3 : ∀ q ∈ zs, ∃ dx lf, H3 q.1 = some (.ins C dx (kflds (.str q.2.name) (.ref lf) (ownV q.2.owner))) := fun q hq => by
              obtain ⟨dx, lf, e⟩ := hz.at_ q hq
              exact ⟨dx, lf, hG3' _ _ e (hT.ne e fun _ z => nomatch z)⟩
            obtain ⟨dx, lf, e⟩ := hk3 q hq
            have hd3 : H3 d = some (.dK kvs) := hG3 _ _ hd2 (hT2.ne hd2 fun _ z => nomatch z)
            have kl : kvs.length = ord.length := (Paired.length hpl).symm
            have ol : ord.length ≤ zs.length := by have := hgr.le; rwa [List.length_map] at this
            refine ⟨_, rfl, _, rfl, _, rfl, q.1, C, dx, _, _, rfl, e, KC.cl, KC.nN, kf_name _ _ _, d, _, rfl, DPut.k (k := Sum.inr q.2.name) hd3 (Nat.lt_of_le_of_lt (Nat.le_trans (Nat.le_of_eq kl) (Nat.le_trans ol hz.le)) (small1000 (by decide))), ?_⟩
            have vn : (valV kvs (Sum.inr q.2.name)).isSome = false := by rw [hpl.val]; simpa using hrd.1
            rw [putK_new vn]
            have hpl' : Placed zs (ord ++ [q.2.name]) (kvs ++ [(Sum.inr q.2.name, V.ref q.1)]) := paired_snoc hpl ⟨q, hq, rfl, rfl⟩
            have hgr' : Greedy (· ∈ zs.map (·.2)) (ord ++ [q.2.name]) := hgr.snoc ⟨q.2, List.mem_map.mpr ⟨q, hq, rfl⟩, rfl, hrd⟩ fun r hr hrr => by
              obtain ⟨q', hq', rfl⟩ := List.mem_map.mp hr
              exact hbest _ (List.mem_map.mpr ⟨q', (mts q').mpr ⟨hq', hrr⟩, rfl⟩)
            have ol' : (ord ++ [q.2.name]).length ≤ zs.length := by have := hgr'.le; rwa [List.length_map] at this
            have lt : zs.length - (ord ++ [q.2.name]).length < zs.length - ord.length := by
              rw [List.length_append] at ol' ⊢
              simp at ol' ⊢
              omega
            generalize ord ++ [q.2.name] = ord' at hpl' hgr' lt
            have hd4 : (upd H3 d (.dK (kvs ++ [(Sum.inr q.2.name, V.ref q.1)]))) d = some (.dK (kvs ++ [(Sum.inr q.2.name, V.ref q.1)])) := upd_same
            have hT4 : TabOk (upd H3 d (.dK (kvs ++ [(Sum.inr q.2.name, V.ref q.1)]))) Pt lamPos lamQ := hT3.upd hd3 (fun _ z => nomatch z) (fun _ z => nomatch z)
            have hG4 : GrownBut Pt H (upd H3 d (.dK (kvs ++ [(Sum.inr q.2.name, V.ref q.1)]))) := fun b o e n => by
              rw [upd_ne (ne_of_none e hd)]
              exact hG3' b o e n
            generalize upd H3 d (.dK (kvs ++ [(Sum.inr q.2.name, V.ref q.1)])) = H4 at hd4 hT4 hG4 ⊢
            generalize kvs ++ [(Sum.inr q.2.name, V.ref q.1)] = kvs' at hd4 hpl'
            clear hk2 hk3
            have hk4 : ∀ q ∈ zs, ∃ dx lf, H4 q.1 = some (.ins C dx (kflds (.str q.2.name) (.ref lf) (ownV q.2.owner))) := fun q hq => by
              obtain ⟨dx, lf, e⟩ := hz.at_ q hq
              exact ⟨dx, lf, hG4 _ _ e (hT.ne e fun _ z => nomatch z)⟩
            have hl4 := hG4 _ _ hl (hT.ne hl fun _ z => nomatch z)
            refine ⟨_, rfl, l, rfl, ⟨_, SqL.of hl4⟩, comp_list (xs := zs.map fun q => V.ref q.1) (fun i ys H' => H4 = H' ∧ ys = ((zs.take i).filter (fun q => readyB ord' q.2)).map fun q => V.ref q.1) ⟨rfl, rfl⟩ (fun i ys H' p => by rw [← p.1]; exact SqL.of hl4) (fun i ys H' hi p => ?_) ?_ ?_⟩
            · rw [p.2, List.length_map]
              exact small _ (Nat.le_trans (flen _ i) (by decide))
            · rintro i x ys H' hi ⟨rfl, rfl⟩ N hN
              rw [List.getElem?_map] at hi
              cases ep : zs[i]? with
              | none => rw [ep] at hi; cases hi
              | some q =>
                rw [ep] at hi
                cases hi
                obtain ⟨dx, lf, e⟩ := hk4 q (List.mem_of_getElem? ep)
                have no : readyB ord' q.2 = false → ((zs.take i).filter (fun q => readyB ord' q.2)).map (fun q => V.ref q.1) = ((zs.take (i + 1)).filter (fun q => readyB ord' q.2)).map fun q => V.ref q.1 := fun z => by rw [filter_snoc _ ep, if_neg (by rw [z]; simp)]
                have ye : readyB ord' q.2 = true → ((zs.take i).filter (fun q => readyB ord' q.2)).map (fun q => V.ref q.1) ++ [V.ref q.1] = ((zs.take (i + 1)).filter (fun q => readyB ord' q.2)).map fun q => V.ref q.1 := fun z => by rw [filter_snoc _ ep, if_pos z, List.map_append]; rfl
                refine ⟨_, rfl, q.1, C, dx, _, _, rfl, e, KC.cl, KC.nN, kf_name _ _ _, _, rfl, d, _, rfl, DGet.k (k := Sum.inr q.2.name) hd4, _, rfl, ?_⟩
                rw [hpl'.val]
                by_cases c1 : q.2.name ∈ ord'
                · rw [decide_eq_true c1]
                  refine iteF (iteF (hN _ _ ⟨rfl, no ?_⟩))
                  simp [readyB, c1]
                · rw [decide_eq_false c1]
                  refine iteT ⟨_, rfl, q.1, C, dx, _, _, rfl, e, KC.cl, KC.nO, kf_owner _ _ _, _, rfl, ?_⟩
                  cases eo : q.2.owner with
                  | none =>
                    refine iteT (iteT ⟨_, rfl, hN _ _ ⟨rfl, ye ?_⟩⟩)
                    simp [readyB, c1, eo]
                  | some o =>
                    have ev : (kflds (.str q.2.name) (.ref lf) (ownV q.2.owner)).lookup ("owner" : Str) = some (.str o) := by rw [kf_owner, eo]; rfl
                    refine iteF ⟨_, rfl, q.1, C, dx, _, _, rfl, e, KC.cl, KC.nO, ev, _, rfl, d, _, rfl, DGet.k (k := Sum.inr o) hd4, _, rfl, ?_⟩
                    rw [hpl'.val]
                    by_cases c2 : o ∈ ord'
                    · rw [decide_eq_true c2]
                      refine iteT ⟨_, rfl, hN _ _ ⟨rfl, ye ?_⟩⟩
                      simp [readyB, c1, eo, c2]
                    · rw [decide_eq_false c2]
                      refine iteF (hN _ _ ⟨rfl, no ?_⟩)
                      simp [readyB, c1, eo, c2]
            · rintro ys H' ⟨rfl, rfl⟩ lr' hlr'
              rw [List.length_map, List.take_length]
              exact ⟨_, lt, ord', kvs', lr', _, rfl, rfl, (Same.new hlr') _ _ hd4, hpl', hgr', upd_same, hT4.same (Same.new hlr'), hG4.trans (.same (Same.new hlr'))⟩
end
end L2.W
-- MOD K7H
namespace L2.W
open PySem My
/-! ### the class Kinds -/
theorem call_len_dict {X : Cx} : CallR X (.builtin "len") (fun vs H Q => ∃ d kvs, vs = [.ref d] ∧ Rd H d (.dK kvs) ∧ Q (.int (kvs.length : Nat)) H) := by
  intro pins s σ H vs us Q I rv h
  obtain ⟨d, kvs, rfl, rd, q⟩ := h
  obtain ⟨u, rfl, ru⟩ := v1 rv
  cases (show u = Value.ref d from ru)
  exact d_len I rd fun t s' I' => ⟨.int _, H, I', ⟨t, rfl⟩, q⟩
structure KsCls (K : PySem.W.Frag) (mg : Str → Option Value) (CK fI fOr fOf fOw : Addr) : Prop where
  cl : Cls K CK
  nB : NoAttr K CK "by_name"
  mgC : mg "Kinds" = some (.ref CK)
  mkd : Mk K CK fI
  mOr : Meth K CK "order" fOr
  mOf : Meth K CK "of" fOf
  mOw : Meth K CK "owned" fOw
noncomputable def ksF (d : V) : List (Str × V) := putF "by_name" d []
theorem ks_by (d : V) : (ksF d).lookup ("by_name" : Str) = some d := by
  unfold ksF
  rw [lookup_putF, if_pos rfl]
theorem ks_no {m : Str} (d : V) (h : ¬ m = "by_name") : (ksF d).lookup m = none := by
  unfold ksF
  rw [lookup_putF, if_neg h]
  rfl
noncomputable def KindsAt (CK : Addr) (H : Hp) (p d : Addr) (kvs : List (Key × V)) : Prop := (∃ dx, H p = some (.ins CK dx (ksF (.ref d)))) ∧ Rd H d (.dK kvs)
theorem KindsAt.mono {CK : Addr} {H H' : Hp} {p d : Addr} {kvs : List (Key × V)} (h : KindsAt CK H p d kvs) (k : ∀ b o, H b = some o → (∃ C dx fs, o = .ins C dx fs) ∨ (∃ kvs, o = .dK kvs) ∨ (∃ x u, o = .frz x u) → H' b = some o) : KindsAt CK H' p d kvs := by
  obtain ⟨⟨dx, e⟩, r⟩ := h
  refine ⟨⟨dx, k _ _ e (.inl ⟨_, _, _, rfl⟩)⟩, ?_⟩
  rcases r with r | ⟨o, r⟩
  · exact .inl (k _ _ r (.inr (.inl ⟨_, rfl⟩)))
  · exact .inr ⟨o, k _ _ r (.inr (.inr ⟨_, _, rfl⟩))⟩
noncomputable def spInitKs (CK C Pt : Addr) : Sp := fun vs H Q _ => ∃ (p dx l : Addr) (zs : List (Addr × Row)), vs = [.ref p, .ref l] ∧ H p = some (.ins CK dx []) ∧ H l = some (.lst (zs.map fun q => V.ref q.1)) ∧ Zs C H zs ∧ RowsP (zs.map (·.2)) ∧ TabOk H Pt lamPos lamQ ∧
  ∀ (d : Addr) (ord : List Str) (kvs : List (Key × V)) (H' : Hp), H' p = some (.ins CK dx (ksF (.ref d))) → H d = none → H' d = some (.dK kvs) → Placed zs ord kvs → Greedy (· ∈ zs.map (·.2)) ord → ord.length = zs.length → TabOk H' Pt lamPos lamQ →
    (∀ b o, H b = some o → b ≠ p → b ≠ Pt → H' b = some o) → Q .non H'
noncomputable def spOf (CK : Addr) : Sp := fun vs H Q _ => ∃ (p d : Addr) (kvs : List (Key × V)) (n : Str) (v : V), vs = [.ref p, .str n] ∧ nameOk n ∧ KindsAt CK H p d kvs ∧ valV kvs (Sum.inr n) = some v ∧ ∀ H', Same H H' → Q v H'
noncomputable def ownedBy (zs : List (Addr × Row)) (n : Str) (ks : List Str) : Prop := ks.Perm ((zs.filter fun q => decide (q.2.owner = some n)).map (·.2.name)) ∧ ks.Pairwise (fun a b => ¬ ltS b a)
noncomputable def spOwned (CK C : Addr) : Sp := fun vs H Q _ => ∃ (p d : Addr) (kvs : List (Key × V)) (n : Str) (zs : List (Addr × Row)) (ord : List Str), vs = [.ref p, .str n] ∧ nameOk n ∧ KindsAt CK H p d kvs ∧ Zs C H zs ∧ Placed zs ord kvs ∧ n ∈ ord ∧ ord.length ≤ 50 ∧
  ∀ (q : Addr) (ks : List Str) (H' : Hp), H q = none → H' q = some (.lst (ks.map V.str)) → Rd H' d (.dK kvs) → (∀ b o, H b = some o → b ≠ d → H' b = some o) → (∃ ys : List (Addr × Row), Paired (fun n q => q ∈ zs ∧ q.2.name = n) ord ys ∧ ownedBy ys n ks) → Q (.ref q) H'
section
variable {P : Program} {w : World} {K : PySem.W.Frag} {mg : Str → Option Value} {base : Heap} {CX : CXT}
theorem scKs : FnScope ["self", "kinds", "placed"] ["self", "kinds"] (defScope sInitKs) := ⟨rfl, rfl, rfl, by decide +kernel, rfl, by decide +kernel, by decide +kernel⟩
theorem ok_initKs {f fI fa fp fu fn C CK fIk fOr fOf fOw c Pt : Addr} {fd fda fdp fdu fdn : FuncData} (hC : Calm CX) (T : Tops K mg) (KC : KCls K mg C fI) (KI : KIsi K C) (KS : KsCls K mg CK fIk fOr fOf fOw) (LT : LamTxt K mg base c Pt) (F : Fun K "__init__" "Kinds.__init__" sInitKs f fd)
    (DN : Def K mg "is_name" sIsName ["thing"] fn fdn) (DU : Def K mg "are_unlike_names" sUnlike ["things"] fu fdu) (DA : Def K mg "are_kinds" sAreKinds ["things"] fa fda) (DP : FunL K "placed_by_owners" "placed_by_owners" sPlaced fp fdp c) (DPa : mg "placed_by_owners" = some (.ref fp)) (DPb : Binds K fdp ["kinds"] []) :
    FnOk P w K mg base CX 5 f fd ["self", "kinds"] (spInitKs CK C Pt) := by
  have GA : FnOk P w K mg base CX 3 fa fda ["things"] (spAreKinds C) := ok_areKinds hC T KC KI DA.fn DN DU
  have GP : FnOk P w K mg base CX 4 fp fdp ["kinds"] (spPlaced C Pt) := ok_placed hC T KC LT DP
  refine Fun.okC F scKs (fun vs H Q E h => ?_) (fun cdv A outer s H vs Q E hr h => ?_)
  · obtain ⟨p, dx, l, zs, rfl, _⟩ := h
    rfl
  · obtain ⟨p, dx, l, zs, rfl, hp, hl, hz, rp, hT, k⟩ := h
    have nd := scKs.nd
    have hr3 := hr.mono (show 3 ≤ 4 by decide)
    refine ⟨_, pss_cons (ps_if (pt_not (pt_val (pe_call GA hr3 rfl DA.at_ DA.fn.kp DA.bind .nil (passC hC) (pa_cons (pv 1) pa_nil)))) pss_never pss_nil)
      (pss_cons (ps_set (i := 2) nd rfl (Or.inl rfl) (pe_call GP hr rfl DPa DP.kp DPb .nil (passC hC) (pa_cons (pv 1) pa_nil)))
      (pss_cons (ps_if (pt_cmpR op_lt (pe_callB call_len_dict rfl T.len PySem.boot_len (pa_cons (pv 2) pa_nil)) (pe_callB call_len_seq rfl T.len PySem.boot_len (pa_cons (pv 1) pa_nil)) (nomark _)) pss_never pss_nil)
      (pss_one (ps_fld (pv 0) (pv 2) rfl)))), ?_⟩
    have kl : KL C H (zs.map (·.1)) (zs.map (·.2)) := by
      have := hz.at_
      clear hl hz rp k
      induction zs with
      | nil => exact .nil
      | cons q t ih => exact .cons (this q List.mem_cons_self) (ih fun q' h => this q' (List.mem_cons_of_mem _ h))
    refine ⟨_, rfl, l, zs.map (·.1), zs.map (·.2), rfl, (by rw [List.map_map]; exact hl), kl, rp, fun H1 s1 => ⟨_, rfl, iteF ?_⟩⟩
    refine ⟨_, rfl, l, zs, rfl, s1 _ _ hl, hz.mono fun b o e _ => s1 _ _ e, hT.same s1, fun d ord kvs H2 hd hd2 hpl hgr hno hT2 hG => ?_⟩
    have nT : ∀ {b : Addr} {o : HO}, H b = some o → (∀ ps, o ≠ .tbl ps) → H2 b = some o := fun e h => hG _ _ (s1 _ _ e) (hT.ne e h)
    have full : ord.length = zs.length := by
      have a := hgr.le
      rw [List.length_map] at a
      refine Nat.le_antisymm a (Nat.le_of_not_lt fun lt => ?_)
      obtain ⟨r, hr, q⟩ := rp.progress (ord := ord) (by rw [List.length_map]; exact lt)
      exact hno r hr q
    have hp2 := nT hp fun _ z => nomatch z
    have hl2 := nT hl fun _ z => nomatch z
    refine ⟨_, rfl, d, kvs, rfl, .inl hd2, _, rfl, l, _, rfl, .inl (SqL.of hl2), _, _, rfl, rfl, _, rfl, ?_⟩
    have kvl : kvs.length = ord.length := (Paired.length hpl).symm
    refine ite2 (fun h => absurd (of_decide_eq_true h) (by rw [List.length_map]; omega)) (fun _ => ?_)
    refine ⟨_, rfl, _, rfl, p, CK, dx, [], rfl, hp2, KS.cl, KS.nB, (by show 0 < 1000; decide), ?_⟩
    have dp : d ≠ p := Ne.symm (ne_of_none (s1 _ _ hp) hd)
    refine k d ord kvs _ upd_same ?_ (by rw [upd_ne dp]; exact hd2) hpl hgr full (hT2.upd hp2 (fun _ z => nomatch z) (fun _ z => nomatch z)) fun b o e n1 n2 => ?_
    · exact s1.free hd
    · rw [upd_ne n1]
      exact hG _ _ (s1 _ _ e) n2
theorem scOf : FnScope ["self", "name"] ["self", "name"] (defScope sOf) := ⟨rfl, rfl, rfl, by decide +kernel, rfl, by decide +kernel, by decide +kernel⟩
theorem rd_same {H H' : Hp} {d : Addr} {u : HO} (s : Same H H') (r : Rd H d u) : Rd H' d u := by
  rcases r with r | ⟨o, r⟩
  · exact .inl (s _ _ r)
  · exact .inr ⟨o, s _ _ r⟩
theorem ok_of {f fn CK fIk fOr fOf fOw : Addr} {fd fdn : FuncData} (hC : Calm CX) (T : Tops K mg) (KS : KsCls K mg CK fIk fOr fOf fOw) (F : Fun K "of" "Kinds.of" sOf f fd) (DN : Def K mg "is_name" sIsName ["thing"] fn fdn) : FnOk P w K mg base CX 2 f fd ["self", "name"] (spOf CK) := by
  have GN : FnOk P w K mg base CX 1 fn fdn ["thing"] spNameD := ok_nameD DN.fn T
  refine Fun.okC F scOf (fun vs H Q E h => ?_) (fun cdv A outer s H vs Q E hr h => ?_)
  · obtain ⟨p, d, kvs, n, v, rfl, _⟩ := h
    rfl
  · obtain ⟨p, d, kvs, n, v, rfl, nn, ⟨⟨dx, hp⟩, rd⟩, hv, k⟩ := h
    have hu := hu_of hr
    refine ⟨_, pss_cons (ps_if (PW.pt (pw_or (pt_not (pt_val (pe_call GN hr rfl DN.at_ DN.fn.kp DN.bind .nil (passC hC) (pa_cons (pv 1) pa_nil)))) (pw_or1 (pt_cmp (pc_dnotin hu (pv 1) (pe_fld (pv 0) rfl)))))) pss_never pss_nil)
      (pss_one (ps_ret (pe_dget hu (pe_fld (pv 0) rfl) (pv 1) (fun _ _ => rfl)))), ?_⟩
    refine ⟨_, rfl, _, .str n, rfl, .str n (Nat.le_trans nn.2.2 (by decide)) nn.2.1, fun H1 s1 => ⟨_, rfl, ?_⟩⟩
    rw [show nameD (.str n) = true from nn.1]
    refine iteF ⟨_, rfl, _, rfl, p, CK, dx, _, _, rfl, s1 _ _ hp, KS.cl, KS.nB, ks_by _, d, _, rfl, .inl ⟨kvs, Sum.inr n, rd_same s1 rd, rfl, rfl⟩, _, rfl, ?_⟩
    rw [hv]
    refine iteF ?_
    exact ⟨_, rfl, p, CK, dx, _, _, rfl, s1 _ _ hp, KS.cl, KS.nB, ks_by _, _, rfl, d, v, rfl, .inl ⟨kvs, Sum.inr n, rd_same s1 rd, rfl, hv.symm⟩, k _ s1⟩
end
end L2.W
-- MOD K7H2
namespace L2.W
open PySem My
/-! ### Kinds.owned -/
theorem Placed.rows {zs : List (Addr × Row)} : ∀ {ord : List Str} {kvs : List (Key × V)}, Placed zs ord kvs → ∃ ys : List (Addr × Row), Paired (fun n q => q ∈ zs ∧ q.2.name = n) ord ys ∧ kvs = ys.map fun q => ((Sum.inr q.2.name : Key), V.ref q.1)
  | _, _, .nil => ⟨[], .nil, rfl⟩
  | n :: ord, kv :: kvs, .cons r t => by
    obtain ⟨q, hq, rfl, e⟩ := r
    obtain ⟨ys, p, rfl⟩ := Placed.rows t
    exact ⟨q :: ys, .cons ⟨hq, e⟩ p, by rw [List.map_cons, e]⟩
theorem paired_in {zs : List (Addr × Row)} : ∀ {ord : List Str} {ys : List (Addr × Row)}, Paired (fun n q => q ∈ zs ∧ q.2.name = n) ord ys → ∀ q ∈ ys, q ∈ zs
  | _, _, .nil, q, h => by cases h
  | _, _, .cons r t, q, h => by
    rcases List.mem_cons.mp h with rfl | h
    · exact r.1
    · exact paired_in t q h
section
variable {P : Program} {w : World} {K : PySem.W.Frag} {mg : Str → Option Value} {base : Heap} {CX : CXT}
theorem scOw : FnScope ["self", "name", "owner"] ["self", "name"] (defScope sOwned) := ⟨rfl, rfl, rfl, by decide +kernel, rfl, by decide +kernel, by decide +kernel⟩
theorem ok_owned {f fI fn C CK fIk fOr fOf fOw : Addr} {fd fdn fdo : FuncData} (hC : Calm CX) (T : Tops K mg) (KC : KCls K mg C fI) (KS : KsCls K mg CK fIk fOr fOf fOw) (F : Fun K "owned" "Kinds.owned" sOwned f fd) (FO : Fun K "of" "Kinds.of" sOf fOf fdo) (bO : Binds K fdo ["self", "name"] []) (DN : Def K mg "is_name" sIsName ["thing"] fn fdn) :
    FnOk P w K mg base CX 3 f fd ["self", "name"] (spOwned CK C) := by
  have GO : FnOk P w K mg base CX 2 fOf fdo ["self", "name"] (spOf CK) := ok_of hC T KS FO DN
  refine Fun.okC F scOw (fun vs H Q E h => ?_) (fun cdv A outer s H vs Q E hr h => ?_)
  · obtain ⟨p, d, kvs, n, zs, ord, rfl, _⟩ := h
    rfl
  · obtain ⟨p, d, kvs, n, zs, ord, rfl, nn, ⟨⟨dx, hp⟩, rd⟩, hz, hpl, hn, ol, k⟩ := h
    have nd := scOw.nd
    refine ⟨_, pss_cons (ps_set (i := 2) nd rfl (Or.inr rfl) (pe_fld (pe_meth (pv 0) KS.cl KS.mOf GO hr bO .nil (passC hC) (pa_cons (pv 1) pa_nil)) rfl))
      (pss_one (ps_ret (pe_callB (call_sorted_strs rfl) rfl T.sorted PyProof.Rows.boot_sorted (pa_cons (pe_comp (T := ["kind"]) rfl ScOk.auto (pi_view (pe_values (pe_fld (pv 0) rfl))) (fun _ _ _ _ => pg_name (i := 3) (by decide +kernel : (["self", "name", "owner", "kind"] : List Str).Nodup) rfl (Or.inl rfl))
        (fun _ _ _ _ => pf_one (pt_cmpR op_eq (pe_fldK (K := K) rfl (pv 3) rfl) (pv 2) (nomark _))) (fun _ _ _ _ => pe_fldK (K := K) rfl (pv 3) rfl)) pa_nil)))), ?_⟩
    have small : ∀ n : Nat, n ≤ 1000 → n ≤ sizeLine := fun n h => Nat.le_of_lt (small1000 h)
    obtain ⟨q0, hq0, hv, en⟩ := hpl.get n hn
    obtain ⟨dxq, lf, eq0⟩ := hz.at_ q0 hq0
    refine ⟨_, rfl, p, dx, _, rfl, hp, ks_no _ (by decide +kernel), _, rfl, p, d, kvs, n, V.ref q0.1, rfl, nn, ⟨⟨dx, hp⟩, rd⟩, hv, fun H1 s1 => ⟨q0.1, C, dxq, _, _, rfl, s1 _ _ eq0, KC.cl, KC.nN, kf_name _ _ _, ?_⟩⟩
    rw [en]
    refine ⟨_, rfl, p, CK, dx, _, _, rfl, s1 _ _ hp, KS.cl, KS.nB, ks_by _, d, kvs, rfl, rd_same s1 rd, fun v hv1 => ⟨v, d, kvs, rfl, upd_same, rd_same (Same.new hv1) (rd_same s1 rd), fun o => ?_⟩⟩
    obtain ⟨ys, hys, rfl⟩ := hpl.rows
    have yl : ys.length ≤ 50 := by
      have b := Paired.length hys
      omega
    have fr : ∀ b x, H b = some x → b ≠ d → (upd (upd H1 v (ViewO v d)) d (.frz o (.dK (ys.map fun q => ((Sum.inr q.2.name : Key), V.ref q.1))))) b = some x := fun b x e nb => by
      rw [upd_ne nb]
      exact (Same.new hv1) _ _ (s1 _ _ e)
    have hd3 : (upd (upd H1 v (ViewO v d)) d (.frz o (.dK (ys.map fun q => ((Sum.inr q.2.name : Key), V.ref q.1))))) d = some (.frz o (.dK (ys.map fun q => ((Sum.inr q.2.name : Key), V.ref q.1)))) := upd_same
    have dn : d ≠ v := by
      intro e
      subst e
      rcases rd_same s1 rd with z | ⟨_, z⟩ <;> rw [hv1] at z <;> cases z
    generalize upd (upd H1 v (ViewO v d)) d (.frz o (.dK (ys.map fun q => ((Sum.inr q.2.name : Key), V.ref q.1)))) = H3 at fr hd3 ⊢
    have nq : ∀ b, H3 b = none → H b = none := fun b e => by
      cases z : H b with
      | none => rfl
      | some u =>
        by_cases c : b = d
        · subst c; rw [hd3] at e; cases e
        · rw [fr b u z c] at e; cases e
    have k3 : ∀ q ∈ ys, ∃ dx lf, H3 q.1 = some (.ins C dx (kflds (.str q.2.name) (.ref lf) (ownV q.2.owner))) := fun q hq => by
      obtain ⟨dx, lf, e⟩ := hz.at_ q (paired_in hys q hq)
      refine ⟨dx, lf, fr _ _ e ?_⟩
      rintro rfl
      rcases rd with z | ⟨_, z⟩ <;> rw [e] at z <;> cases z
    refine comp_vals (fun i xs H' => H3 = H' ∧ xs = (((ys.take i).filter fun q => decide (q.2.owner = some n)).map (·.2.name)).map V.str) ⟨rfl, rfl⟩ (fun i xs H' p => by rw [← p.1]; exact hd3) (fun i xs H' hi p => ?_) ?_ ?_
    · rw [p.2, List.length_map, List.length_map]
      have h1 := List.length_filter_le (fun q : Addr × Row => decide (q.2.owner = some n)) (ys.take i)
      have h2 : (ys.take i).length ≤ ys.length := by rw [List.length_take]; omega
      exact small _ (by omega)
    · rintro i k' x xs H' hi ⟨rfl, rfl⟩ N hN
      rw [List.getElem?_map] at hi
      cases ep : ys[i]? with
      | none => rw [ep] at hi; cases hi
      | some q =>
        rw [ep] at hi
        cases hi
        obtain ⟨dx, lf, e⟩ := k3 q (List.mem_of_getElem? ep)
        cases eo : q.2.owner with
        | none =>
          have ev : (kflds (.str q.2.name) (.ref lf) (ownV q.2.owner)).lookup ("owner" : Str) = some .non := by rw [kf_owner, eo]; rfl
          refine ⟨_, rfl, q.1, C, dx, _, _, rfl, e, KC.cl, KC.nO, ev, _, rfl, rfl, _, rfl, iteF (hN _ _ ⟨rfl, ?_⟩)⟩
          rw [filter_snoc _ ep, if_neg (by simp [eo])]
        | some ow =>
          have ev : (kflds (.str q.2.name) (.ref lf) (ownV q.2.owner)).lookup ("owner" : Str) = some (.str ow) := by rw [kf_owner, eo]; rfl
          refine ⟨_, rfl, q.1, C, dx, _, _, rfl, e, KC.cl, KC.nO, ev, _, rfl, rfl, _, rfl, ?_⟩
          by_cases c : ow = n
          · subst c
            rw [decide_eq_true rfl]
            refine iteT ⟨_, rfl, q.1, C, dx, _, _, rfl, e, KC.cl, KC.nN, kf_name _ _ _, hN _ _ ⟨rfl, ?_⟩⟩
            rw [filter_snoc _ ep, if_pos (by simp [eo]), List.map_append, List.map_append]
            rfl
          · rw [decide_eq_false (show ¬ V.str ow = V.str n by intro z; injection z with z; exact c z)]
            refine iteF (hN _ _ ⟨rfl, ?_⟩)
            rw [filter_snoc _ ep, if_neg (by simp [eo, c])]
    · rintro xs H' ⟨rfl, rfl⟩ l hl
      rw [List.length_map, List.take_length]
      refine ⟨l, _, rfl, SqL.of upd_same, ?_, fun r ks' hr' hp' hs' => ?_⟩
      · rw [List.length_map]
        have h1 := List.length_filter_le (fun q : Addr × Row => decide (q.2.owner = some n)) ys
        omega
      · have rl : r ≠ l := fun z => by rw [z, upd_same] at hr'; cases hr'
        rw [upd_ne rl] at hr'
        refine k r ks' _ (nq _ hr') upd_same ?_ (fun b u e nb => ?_) ⟨ys, hys, hp', hs'⟩
        · refine .inr ⟨o, ?_⟩
          rw [upd_ne (ne_of_none hd3 hr'), upd_ne (ne_of_none hd3 hl)]
          exact hd3
        · have e3 := fr b u e nb
          rw [upd_ne (ne_of_none e3 hr'), upd_ne (ne_of_none e3 hl)]
          exact e3
end
end L2.W
-- MOD K7I
namespace L2.W
open PySem My
/-! ### the law's own rows -/
theorem for_enum {K : PySem.W.Frag} {a : Addr} {xs : List V} {g : TG} {tb : TS} {D : Ends} {σ : St} {H : Hp} (Pv : Nat → St → Hp → Prop) (h0 : Pv 0 σ H) (hl : ∀ i σ H, i ≤ xs.length → Pv i σ H → SqL K H a xs)
    (hs : ∀ i x σ H p, xs[i]? = some x → Pv i σ H → H p = none → g (.ref p) σ (upd H p (.tup [.int (i : Nat), x])) fun σ2 H2 => tb { D with nx := Pv (i + 1), ct := Pv (i + 1), bk := D.nx } σ2 H2) (hd : ∀ σ H, Pv xs.length σ H → D.nx σ H) :
    ∃ W : Nat → Nat → St → Hp → Prop, (∃ m, W 0 m σ H) ∧ ∀ i m σ H, W i m σ H →
      ((Ite K a).stop i H ∧ D.nx σ H) ∨ ((Ite K a).go i H ∧ ∃ N : St → Hp → Prop, (∀ σ' H', N σ' H' → ∃ m', m' < m ∧ W (i + 1) m' σ' H') ∧ ∀ x H', (Ite K a).yld i H x H' → g x σ H' fun σ2 H2 => tb { D with nx := N, ct := N, bk := D.nx } σ2 H2) := by
  refine ⟨fun i m σ H => m = xs.length - i ∧ i ≤ xs.length ∧ Pv i σ H, ⟨xs.length, by simp, Nat.zero_le _, h0⟩, ?_⟩
  rintro i m σ H ⟨rfl, hi, p⟩
  have q := hl i σ H hi p
  by_cases hlt : i < xs.length
  · refine .inr ⟨⟨xs, xs[i], q, by simp [hlt]⟩, Pv (i + 1), fun σ' H' p' => ⟨xs.length - (i + 1), by omega, rfl, hlt, p'⟩, fun x H' y => ?_⟩
    obtain ⟨t, z, rfl, ht, rfl, hz⟩ := y
    exact hs i z σ H t (hz xs q) p ht
  · obtain rfl : i = xs.length := by omega
    exact .inl ⟨⟨xs, q, Nat.le_refl _⟩, hd σ H p⟩
noncomputable def ownD : Option Str → PyData
  | none => .none
  | some o => .str o
noncomputable def rowD (r : Row) : PyData := .tuple [.str r.name, .list (r.fields.map fieldD), ownD r.owner]
structure RowsI (rs : List Row) : Prop where
  ok : ∀ r ∈ rs, nameOk r.name ∧ FieldsOk r.fields
  own : ∀ (i : Nat) (r : Row) (o : Str), rs[i]? = some r → r.owner = some o → ∃ (j : Nat) (r' : Row), j < i ∧ rs[j]? = some r' ∧ r'.name = o
theorem RowsI.snoc {rs : List Row} (h : RowsI rs) {r : Row} (h1 : nameOk r.name ∧ FieldsOk r.fields) (h2 : ∀ o, r.owner = some o → ∃ (j : Nat) (r' : Row), rs[j]? = some r' ∧ r'.name = o) : RowsI (rs ++ [r]) := by
  refine ⟨fun q hq => ?_, fun i q o e eo => ?_⟩
  · rcases List.mem_append.mp hq with hq | hq
    · exact h.ok q hq
    · rw [List.mem_singleton.mp hq]; exact h1
  · by_cases lt : i < rs.length
    · rw [List.getElem?_append_left lt] at e
      obtain ⟨j, r', hj, e1, e2⟩ := h.own i q o e eo
      exact ⟨j, r', hj, by rw [List.getElem?_append_left (by omega)]; exact e1, e2⟩
    · have hi : i = rs.length := by
        have := (List.getElem?_eq_some_iff.mp e).1
        simp at this
        omega
      subst hi
      have : r = q := by simpa using e
      subst this
      obtain ⟨j, r', e1, e2⟩ := h2 o eo
      have hj := (List.getElem?_eq_some_iff.mp e1).1
      exact ⟨j, r', hj, by rw [List.getElem?_append_left hj]; exact e1, e2⟩
theorem own_has {G : Addr → Prop} {H : Hp} {o : Option Str} (h : ∀ x, o = some x → nameOk x) : Has G H (ownV o) (ownD o) := by
  cases o with
  | none => exact .non
  | some x =>
    have := h x rfl
    exact .str x (Nat.le_trans this.2.2 (by decide)) this.2.1
noncomputable def spSpecs : Sp := fun vs H Q _ => ∃ (p : Addr) (k : Int), vs = [.ref p] ∧ Src H p k ∧ k ≤ 800000 ∧
  ∀ (l : Addr) (rs : List Row) (H' : Hp), RowsOk rs → Has (fun a => H a = none) H' (.ref l) (.list (rs.map rowD)) → Src H' p (k + 300) → (∀ b o, H b = some o → b ≠ p → H' b = some o) → Q (.ref l) H'
theorem row_name {G : Addr → Prop} {H : Hp} {v : V} {r : Row} (h : Has G H v (rowD r)) : ∃ t x y, v = .ref t ∧ G t ∧ H t = some (.tup [.str r.name, x, y]) := by
  obtain ⟨t, xs, rfl, g, e, _, hx⟩ := h.tup_inv
  cases hx with
  | cons h1 h2 =>
    cases h2 with
    | cons h3 h4 =>
      cases h4 with
      | cons h5 h6 =>
        cases h6
        obtain ⟨rfl, _⟩ := h1.str_inv
        exact ⟨t, _, _, rfl, g, e⟩
section
variable {P : Program} {w : World} {K : PySem.W.Frag} {mg : Str → Option Value} {base : Heap} {CX : CXT}
theorem k_row {R F : Option Str → Hp → Prop} {B : Prop} (t : ∀ ow Hx, F ow Hx → R ow Hx) (h : (∀ ow Hx, F ow Hx → R ow Hx) → B) : B := h t
theorem scSp : FnScope ["_law_source", "_law_got", "_law_k", "_law_name", "_law_owner"] ["_law_source"] (defScope sSpecs) := ⟨rfl, rfl, rfl, by decide +kernel, rfl, by decide +kernel, by decide +kernel⟩
theorem ok_specs {f fm fn fs fnm fl : Addr} {fd fdm fdn fds fdnm fdl : FuncData} (hC : Calm CX) (T : Tops K mg) (F : Fun K "_law_specs" "_law_specs" sSpecs f fd) (DM : Def K mg "_law_mixed" sMixed ["_law_cell", "_law_k"] fm fdm)
    (DN : Def K mg "_law_next" sNext ["_law_source", "_law_many"] fn fdn) (DS : Def K mg "_law_sign" sSign ["_law_sign_here", "_law_turn"] fs fds) (DA : Def K mg "_law_names" sNames ["_law_source", "_law_many"] fnm fdnm) (DL : Def K mg "_law_fields" sLFields ["_law_source"] fl fdl) : FnOk P w K mg base CX 5 f fd ["_law_source"] spSpecs := by
  have GN : FnOk P w K mg base CX 2 fn fdn ["_law_source", "_law_many"] spNext := ok_next hC DN.fn DM
  have GA : FnOk P w K mg base CX 3 fnm fdnm ["_law_source", "_law_many"] spNames := ok_names hC T DA.fn DM DN DS
  have GL : FnOk P w K mg base CX 4 fl fdl ["_law_source"] spLFields := ok_lfields hC T DL.fn DM DN DS DA
  refine Fun.okC F scSp (fun vs H Q E h => ?_) (fun cdv A outer s H vs Q E hr h => ?_)
  · obtain ⟨p, k, rfl, _⟩ := h
    rfl
  · obtain ⟨p, k, rfl, S0, hk, q⟩ := h
    have nd := scSp.nd
    have hr2 := hr.mono (show 2 ≤ 4 by decide)
    have hr3 := hr.mono (show 3 ≤ 4 by decide)
    refine ⟨_, pss_cons (ps_set (i := 1) nd rfl (Or.inl rfl) (pe_lst pa_nil))
      (pss_cons (ps_for PassesOwn.never rfl (pi_enum rfl T.enum (pa_cons (pe_call GA hr3 rfl DA.at_ DA.fn.kp DA.bind .nil (passC hC) (pa_cons (pv 0) (pa_cons (pe_op op_add pe_int (pe_call GN hr2 rfl DN.at_ DN.fn.kp DN.bind .nil (passC hC) (pa_cons (pv 0) (pa_cons pe_int pa_nil)))) pa_nil))) pa_nil))
        (pg_tup rfl (pgs_cons (pg_name (i := 2) nd rfl (Or.inl rfl)) (pgs_cons (pg_name (i := 3) nd rfl (Or.inl rfl)) pgs_nil)))
        (pss_cons (ps_set (i := 4) nd rfl (Or.inl rfl) pe_non)
        (pss_cons (ps_if (PW.pt (pw_and (pt_cmpR op_gt (pv 2) pe_int (nomark _)) (pw_and1 (pt_cmpR op_gt (pe_call GN hr2 rfl DN.at_ DN.fn.kp DN.bind .nil (passC hC) (pa_cons (pv 0) (pa_cons pe_int pa_nil))) pe_int (nomark _)))))
          (pss_one (ps_set (i := 4) nd rfl (Or.inl rfl) (pe_ix ix_tup (pe_ix ix_list (pv 1) (pe_call GN hr2 rfl DN.at_ DN.fn.kp DN.bind .nil (passC hC) (pa_cons (pv 0) (pa_cons (pv 2) pa_nil))) (fun _ _ => rfl)) pe_int (fun _ _ => rfl)))) pss_nil)
        (pss_one (ps_expr (pe_bm PySem.F.plainAttrs_list PySem.F.slot_list_append PySem.F.type_list_append mt_append (pv 1) (pa_cons (pe_tup (pa_cons (pv 3) (pa_cons (pe_call GL hr rfl DL.at_ DL.fn.kp DL.bind .nil (passC hC) (pa_cons (pv 0) pa_nil)) (pa_cons (pv 4) pa_nil)))) pa_nil)))))))
      (pss_one (ps_ret (pv 1)))), ?_⟩
    have small : ∀ n : Nat, n ≤ 1000 → n ≤ sizeLine := fun n h => Nat.le_of_lt (small1000 h)
    have src : ∀ {H1 H2 : Hp} {j : Int}, Src H1 p j → (∀ o, H1 p = some o → H2 p = some o) → Src H2 p j := fun ⟨a, c, i, e, r⟩ h => ⟨a, c, i, h _ e, r⟩
    refine ⟨Nat.zero_le _, fun lg fg => ?_⟩
    have ngp : lg ≠ p := by obtain ⟨_, _, _, e, _⟩ := S0; exact Ne.symm (ne_of_none e fg)
    have S1 : Src (upd H lg (.lst [])) p k := src S0 fun o e => (Same.new fg) _ _ e
    refine ⟨_, rfl, _, rfl, p, _, k, rfl, S1, by omega, by decide, by decide, fun d H1 d0 d1 S2 k2 => ⟨_, _, rfl, rfl, p, _, _, rfl, S2, by omega, by omega, by omega, fun l1 ks H1' e1 n1 o1 hl1 f1 S3 k3 => ?_⟩⟩
    have hg1 : H1' lg = some (.lst []) := k3 _ _ (by rw [k2 _ ngp]; exact upd_same) ngp
    have nll : l1 ≠ lg := fun e => by rw [e, k2 _ ngp, upd_same] at f1; cases f1
    have nl1p : l1 ≠ p := by obtain ⟨_, _, _, e, _⟩ := S2; exact Ne.symm (ne_of_none e f1)
    have kl : ks.length ≤ 5 ∧ 0 < ks.length := by omega
    refine ⟨l1, rfl, ⟨_, SqL.of hl1⟩, for_enum (K := K) (a := l1) (xs := ks.map V.str) (fun i σ H2 => ∃ (ys : List V) (rs : List Row) (x2 x3 x4 : Option V), σ = [some (.ref p), some (.ref lg), x2, x3, x4] ∧ H2 lg = some (.lst ys) ∧ ys.length = i ∧
      HasAll (fun a => H a = none ∧ a ≠ lg) H2 ys (rs.map rowD) ∧ rs.length = i ∧ rs.map (·.name) = ks.take i ∧ RowsI rs ∧ H2 l1 = some (.lst (ks.map V.str)) ∧ Src H2 p (k + 10 + 40 * i) ∧ (∀ b o, H b = some o → b ≠ p → H2 b = some o)) ?_ ?_ ?_ ?_⟩
    · refine ⟨[], [], none, none, none, rfl, hg1, rfl, .nil, rfl, rfl, ⟨(fun r h => nomatch h), fun i r o h => by simp at h⟩, hl1, S3.mono (by omega), fun b o e nb => k3 _ _ ?_ nb⟩
      rw [k2 b nb]
      exact (Same.new fg) _ _ e
    · rintro i σ H2 _ ⟨ys, rs, x2, x3, x4, rfl, hg2, hyl, hys, hrl, hnm, ri, hl1, S2, fr2⟩
      exact SqL.of hl1
    · rintro i x σ H1 pt hi ⟨ys, rs, x2, x3, x4, rfl, hg2, hyl, hys, hrl, hnm, ri, hl1, S2, fr2⟩ hpt
      rw [List.getElem?_map] at hi
      cases hn : ks[i]? with
      | none => rw [hn] at hi; cases hi
      | some n =>
        rw [hn] at hi
        cases hi
        have onm : nameOk n := o1 n (List.mem_of_getElem? hn)
        have li : i < ks.length := (List.getElem?_eq_some_iff.mp hn).1
        have sN := Same.new (o := .tup [.int (i : Nat), .str n]) hpt
        replace hg2 := sN _ _ hg2
        replace hys := hys.mono sN
        replace hl1 := sN _ _ hl1
        replace S2 := src S2 fun o e => sN _ _ e
        replace fr2 : ∀ b o, H b = some o → b ≠ p → (upd H1 pt (.tup [.int (i : Nat), .str n])) b = some o := fun b o e nb => sN _ _ (fr2 b o e nb)
        have hpt2 : (upd H1 pt (.tup [.int (i : Nat), .str n])) pt = some (.tup [.int (i : Nat), .str n]) := upd_same
        generalize upd H1 pt (.tup [.int (i : Nat), .str n]) = H2 at hg2 hys hl1 S2 fr2 hpt2 ⊢
        refine ⟨pt, _, rfl, SqT.of hpt2, rfl, _, _, rfl, _, _, rfl, rfl, ?_⟩
        refine ⟨_, rfl, _, _, rfl, rfl, _, rfl, ?_⟩
        refine' k_row (F := fun ow H5 => (∀ b o, H2 b = some o → b ≠ p → H5 b = some o) ∧ Src H5 p (k + 10 + 40 * i + 2) ∧ (∀ x, ow = some x → nameOk x) ∧ ∀ o, ow = some o → ∃ (j : Nat) (r' : Row), rs[j]? = some r' ∧ r'.name = o) _ (fun kr => _)
        rotate_left 2
        · refine ite2 (fun c1 => ?_) (fun c1 => ?_)
          · have i0 : 0 < i := by have := of_decide_eq_true c1; omega
            refine ⟨_, rfl, p, _, _, rfl, S2, by omega, by decide, by decide, fun r H3 r0 r1 S3 k3 => ⟨_, _, rfl, rfl, _, rfl, ?_⟩⟩
            refine ite2 (fun c2 => ?_) (fun c2 => ?_)
            · refine ⟨_, rfl, _, rfl, _, rfl, p, _, _, rfl, S3, by omega, by omega, by omega, fun r2 H5 a0 a1 S5 k5 => ?_⟩
              have fr5 : ∀ b o, H2 b = some o → b ≠ p → H5 b = some o := fun b o e nb => by rw [k5 b nb, k3 b nb]; exact e
              obtain ⟨j, rfl⟩ : ∃ j : Nat, r2 = (j : Int) := ⟨r2.toNat, by omega⟩
              obtain ⟨y, hy⟩ : ∃ y, ys[j]? = some y := ⟨_, List.getElem?_eq_getElem (by omega)⟩
              obtain ⟨dd, hdd, hyh⟩ := hys.get hy
              rw [List.getElem?_map] at hdd
              cases er : rs[j]? with
              | none => rw [er] at hdd; cases hdd
              | some r' =>
                rw [er] at hdd
                cases hdd
                obtain ⟨t', x', y', rfl, g', et⟩ := row_name hyh
                have nt' : t' ≠ p := by obtain ⟨_, _, _, e', _⟩ := S0; intro z; rw [z, e'] at g'; exact nomatch g'.1
                have on' := (ri.ok r' (List.mem_of_getElem? er)).1
                refine ⟨lg, ys, (j : Int), _, rfl, rfl, SqL.of (fr5 _ _ hg2 ngp), atI_nat hy, t', _, _, _, rfl, rfl, SqT.of (fr5 _ _ et nt'), rfl, ?_⟩
                rw [show V.str r'.name = ownV (some r'.name) from rfl]
                obtain ⟨ow, eo⟩ : ∃ ow, some r'.name = ow := ⟨_, rfl⟩
                rw [eo]
                exact kr ow H5 ⟨fr5, S5.mono (by omega), fun x e => by rw [← eo] at e; cases e; exact on', fun o e => ⟨j, r', er, by rw [← eo] at e; cases e; rfl⟩⟩
            · exact kr none H3 ⟨fun b o e nb => by rw [k3 b nb]; exact e, S3.mono (by omega), (fun x e => nomatch e), (fun o e => nomatch e)⟩
          · exact kr none H2 ⟨fun b o e nb => e, S2.mono (by omega), (fun x e => nomatch e), (fun o e => nomatch e)⟩
        · intro ow H5 hF
          obtain ⟨fr5, S5, hOWN, hOW⟩ := hF
          refine ⟨_, rfl, .inl ⟨rfl, _, SqL.of (fr5 _ _ hg2 ngp)⟩, _, rfl, _, rfl, p, _, rfl, S5, by omega, fun lf fs H6 fok hfs S6 k6 => ⟨_, rfl, by show 3 ≤ sizeLine; decide, fun t ht => ⟨lg, _, _, rfl, rfl, (Same.new ht) _ _ (k6 _ _ (fr5 _ _ hg2 ngp) ngp), by rw [hyl]; exact small1000 (by omega), ?_⟩⟩⟩
          have ntl : t ≠ lg := fun e => by rw [e, k6 _ _ (fr5 _ _ hg2 ngp) ngp] at ht; cases ht
          have ntp : t ≠ p := by obtain ⟨_, _, _, e, _⟩ := S6; exact Ne.symm (ne_of_none e ht)
          have bk5 : ∀ b, H5 b = none → H b = none ∧ b ≠ lg := fun b e => by
            have nbp : b ≠ p := by obtain ⟨_, _, _, e', _⟩ := S5; exact Ne.symm (ne_of_none e' e)
            refine ⟨?_, ?_⟩
            · cases z : H b with
              | none => rfl
              | some o => rw [fr5 _ _ (fr2 _ _ z nbp) nbp] at e; cases e
            · rintro rfl
              rw [fr5 _ _ hg2 ngp] at e; cases e
          have ft : H t = none := by
            cases z : H t with
            | none => rfl
            | some o => rw [k6 _ _ (fr5 _ _ (fr2 _ _ z ntp) ntp) ntp] at ht; cases ht
          have fr7 : ∀ b o, H2 b = some o → b ≠ p → b ≠ lg → (upd (upd H6 t (.tup [.str n, .ref lf, ownV ow])) lg (.lst (ys ++ [.ref t]))) b = some o := fun b o e nb nl => by
            rw [upd_ne nl]
            exact (Same.new ht) _ _ (k6 _ _ (fr5 _ _ e nb) nb)
          refine ⟨ys ++ [.ref t], rs ++ [⟨n, fs, ow⟩], _, _, _, rfl, upd_same, ?_, ?_, ?_, ?_, ri.snoc ⟨onm, fok⟩ hOW, ?_, ?_, fun b o e nb => fr7 _ _ (fr2 _ _ e nb) nb (by rintro rfl; rw [fg] at e; cases e)⟩
          · rw [List.length_append, hyl]; rfl
          · rw [List.map_append]
            refine HasAll.snoc (hys.frame fun b o g e => ⟨g, fr7 _ _ e (by obtain ⟨_, _, _, e', _⟩ := S0; rintro rfl; rw [e'] at g; exact nomatch g.1) g.2⟩) ?_
            refine .tup ⟨ft, ntl⟩ (by rw [upd_ne ntl, upd_same]) (by show 3 ≤ 1000; decide) (.cons (.str n (Nat.le_trans onm.2.2 (by decide)) onm.2.1) (.cons (hfs.frame fun b o g e => ⟨bk5 b g, ?_⟩) (.cons (own_has hOWN) .nil)))
            rw [upd_ne (bk5 b g).2]
            exact (Same.new ht) _ _ e
          · rw [List.length_append, hrl]; rfl
          · rw [List.map_append, hnm, List.take_add_one, hn]; rfl
          · exact fr7 _ _ hl1 nl1p nll
          · obtain ⟨a, c, j, e, r1, r2⟩ := S6
            refine ⟨a, c, j, ?_, r1, by first | omega | (push_cast; omega)⟩
            rw [upd_ne (Ne.symm ngp)]
            exact (Same.new ht) _ _ e
    · rintro σ H2 ⟨ys, rs, x2, x3, x4, rfl, hg2, hyl, hys, hrl, hnm, ri, hl1, S2, fr2⟩
      rw [List.length_map] at hyl hrl hnm S2
      rw [List.take_length] at hnm
      refine ⟨_, rfl, q lg rs H2 ⟨by omega, by omega, by rw [hnm]; exact n1, ri.ok, ri.own⟩ (.lst fg hg2 (by omega) (hys.frame fun b o g e => ⟨g.1, e⟩)) (S2.mono (by omega)) fr2⟩
end
end L2.W
-- MOD K7J
namespace L2.W
open PySem My
/-! ### a list turned -/
noncomputable def turnL {α : Type} (a : Nat) (b : Bool) (l : List α) : List α := if b then (l.drop a ++ l.take a).reverse else l.drop a ++ l.take a
theorem turnL_perm {α : Type} (a : Nat) (b : Bool) (l : List α) : (turnL a b l).Perm l := by
  have h : (l.drop a ++ l.take a).Perm l := by
    refine List.perm_append_comm.trans ?_
    rw [List.take_append_drop]
  unfold turnL
  cases b with
  | false => exact h
  | true => exact (List.reverse_perm _).trans h
theorem turnL_map {α β : Type} (f : α → β) (a : Nat) (b : Bool) (l : List α) : turnL a b (l.map f) = (turnL a b l).map f := by
  unfold turnL
  cases b <;> simp
theorem hasAll_app {G : Addr → Prop} {H : Hp} : ∀ {xs ys : List V} {ds es : List PyData}, HasAll G H xs ds → HasAll G H ys es → HasAll G H (xs ++ ys) (ds ++ es)
  | _, _, _, _, .nil, h => h
  | _, _, _, _, .cons a t, h => .cons a (hasAll_app t h)
theorem hasAll_take {G : Addr → Prop} {H : Hp} : ∀ (n : Nat) {xs : List V} {ds : List PyData}, HasAll G H xs ds → HasAll G H (xs.take n) (ds.take n)
  | 0, _, _, _ => .nil
  | _ + 1, _, _, .nil => .nil
  | n + 1, _, _, .cons a t => .cons a (hasAll_take n t)
theorem hasAll_drop {G : Addr → Prop} {H : Hp} : ∀ (n : Nat) {xs : List V} {ds : List PyData}, HasAll G H xs ds → HasAll G H (xs.drop n) (ds.drop n)
  | 0, _, _, h => h
  | _ + 1, _, _, .nil => .nil
  | n + 1, _, _, .cons _ t => hasAll_drop n t
theorem hasAll_rev {G : Addr → Prop} {H : Hp} : ∀ {xs : List V} {ds : List PyData}, HasAll G H xs ds → HasAll G H xs.reverse ds.reverse
  | _, _, .nil => .nil
  | _, _, .cons a t => by
    rw [List.reverse_cons, List.reverse_cons]
    exact hasAll_app (hasAll_rev t) (.cons a .nil)
theorem turnL_len {α : Type} (a : Nat) (b : Bool) (l : List α) : (turnL a b l).length = l.length := (turnL_perm a b l).length_eq
theorem hasAll_turn {G : Addr → Prop} {H : Hp} (a : Nat) (b : Bool) {xs : List V} {ds : List PyData} (h : HasAll G H xs ds) : HasAll G H (turnL a b xs) (turnL a b ds) := by
  unfold turnL
  cases b with
  | false => exact hasAll_app (hasAll_drop a h) (hasAll_take a h)
  | true => exact hasAll_rev (hasAll_app (hasAll_drop a h) (hasAll_take a h))
theorem cut_from {xs : List V} {a : Nat} (h : a ≤ xs.length) : cutV xs (some (a : Int)) none = xs.drop a := by
  unfold cutV HT.sIx
  have : ¬ ((a : Int) < 0) := by omega
  simp [this, Nat.min_eq_left h, List.take_of_length_le]
theorem cut_to {xs : List V} {a : Nat} (h : a ≤ xs.length) : cutV xs none (some (a : Int)) = xs.take a := by
  unfold cutV HT.sIx
  have : ¬ ((a : Int) < 0) := by omega
  simp [this, Nat.min_eq_left h]
noncomputable def spTurned (K : PySem.W.Frag) : Sp := fun vs H Q _ => ∃ (p l : Addr) (xs : List V) (k : Int), vs = [.ref p, .ref l] ∧ SqL K H l xs ∧ l ≠ p ∧ Src H p k ∧ k ≤ 999000 ∧ 0 < xs.length ∧ xs.length ≤ 1000 ∧
  ∀ (q : Addr) (a : Nat) (b : Bool) (H' : Hp), H' q = some (.lst (turnL a b xs)) → H q = none → Src H' p (k + 2) → (∀ b o, H b = some o → b ≠ p → H' b = some o) → Q (.ref q) H'
theorem sql_keep {K : PySem.W.Frag} {H H' : Hp} {l : Addr} {xs : List V} (h : SqL K H l xs) (e : ∀ o, H l = some o → H' l = some o) : SqL K H' l xs := by
  rcases h with (h | ⟨o, h⟩) | h
  · exact .inl (.inl (e _ h))
  · exact .inl (.inr ⟨o, e _ h⟩)
  · exact .inr h
section
variable {P : Program} {w : World} {K : PySem.W.Frag} {mg : Str → Option Value} {base : Heap} {CX : CXT}
theorem scTu : FnScope ["_law_source", "_law_things", "_law_at", "_law_got"] ["_law_source", "_law_things"] (defScope sTurned) := ⟨rfl, rfl, rfl, by decide +kernel, rfl, by decide +kernel, by decide +kernel⟩
theorem ok_turned {f fm fn : Addr} {fd fdm fdn : FuncData} (hC : Calm CX) (T : Tops K mg) (F : Fun K "_law_turned" "_law_turned" sTurned f fd) (DM : Def K mg "_law_mixed" sMixed ["_law_cell", "_law_k"] fm fdm)
    (DN : Def K mg "_law_next" sNext ["_law_source", "_law_many"] fn fdn) : FnOk P w K mg base CX 3 f fd ["_law_source", "_law_things"] (spTurned K) := by
  have GN : FnOk P w K mg base CX 2 fn fdn ["_law_source", "_law_many"] spNext := ok_next hC DN.fn DM
  refine Fun.okC F scTu (fun vs H Q E h => ?_) (fun cdv A outer s H vs Q E hr h => ?_)
  · obtain ⟨p, l, xs, k, rfl, _⟩ := h
    rfl
  · obtain ⟨p, l, xs, k, rfl, hl, nl, S0, hk, l0, l1, q⟩ := h
    have nd := scTu.nd
    refine ⟨_, pss_cons (ps_set (i := 2) nd rfl (Or.inl rfl) (pe_call GN hr rfl DN.at_ DN.fn.kp DN.bind .nil (passC hC) (pa_cons (pv 0) (pa_cons (pe_callB call_len_seq rfl T.len PySem.boot_len (pa_cons (pv 1) pa_nil)) pa_nil))))
      (pss_cons (ps_set (i := 3) nd rfl (Or.inl rfl) (pe_op op_cat (pe_slice sl_list (pv 1) (po_some (pv 2)) po_none) (pe_slice sl_list (pv 1) po_none (po_some (pv 2)))))
      (pss_one (ps_ret (pe_ix ix_list (pe_lst (pa_cons (pv 3) (pa_cons (pe_rev (pv 3)) pa_nil))) (pe_call GN hr rfl DN.at_ DN.fn.kp DN.bind .nil (passC hC) (pa_cons (pv 0) (pa_cons pe_int pa_nil))) (fun _ _ => rfl))))), ?_⟩
    have small : ∀ n : Nat, n ≤ 1000 → n ≤ sizeLine := fun n h => Nat.le_of_lt (small1000 h)
    have src : ∀ {H1 H2 : Hp} {j : Int}, Src H1 p j → (∀ o, H1 p = some o → H2 p = some o) → Src H2 p j := fun ⟨a, c, i, e, r⟩ h => ⟨a, c, i, h _ e, r⟩
    refine ⟨_, rfl, _, rfl, l, xs, rfl, .inl hl, p, _, k, rfl, S0, by omega, by omega, by omega, fun r H1 r0 r1 S1 k1 => ?_⟩
    obtain ⟨a, rfl⟩ : ∃ a : Nat, r = (a : Int) := ⟨r.toNat, by omega⟩
    have hl1 : SqL K H1 l xs := sql_keep hl fun o e => by rw [k1 l nl]; exact e
    refine ⟨_, rfl, _, rfl, (a : Int), rfl, l, xs, rfl, hl1, fun p1 f1 => ⟨_, rfl, _, rfl, (a : Int), rfl, l, xs, rfl, sql_keep hl1 fun o e => (Same.new f1) _ _ e, fun p2 f2 => ?_⟩⟩
    have e1 := cut_from (xs := xs) (a := a) (by omega)
    have e2 := cut_to (xs := xs) (a := a) (by omega)
    rw [e1] at f2 ⊢
    rw [e2]
    have s1 : Same H1 (upd H1 p1 (.lst (xs.drop a))) := Same.new f1
    have hp1 : (upd H1 p1 (.lst (xs.drop a))) p1 = some (.lst (xs.drop a)) := upd_same
    generalize upd H1 p1 (.lst (xs.drop a)) = H2 at f2 s1 hp1 ⊢
    have s2 : Same H2 (upd H2 p2 (.lst (xs.take a))) := Same.new f2
    refine ⟨p1, p2, _, _, rfl, rfl, s2 _ _ hp1, upd_same, ?_, fun p3 f3 => ?_⟩
    · rw [List.length_drop, List.length_take]
      exact small _ (by omega)
    have s3 : Same H1 (upd (upd H2 p2 (.lst (xs.take a))) p3 (.lst (xs.drop a ++ xs.take a))) := (s1.trans s2).trans (Same.new f3)
    have hp3 : (upd (upd H2 p2 (.lst (xs.take a))) p3 (.lst (xs.drop a ++ xs.take a))) p3 = some (.lst (xs.drop a ++ xs.take a)) := upd_same
    have n3 : H1 p3 = none := (s1.trans s2).free f3
    generalize upd (upd H2 p2 (.lst (xs.take a))) p3 (.lst (xs.drop a ++ xs.take a)) = H3 at s3 hp3 ⊢
    clear s1 s2 hp1 f1 f2 f3
    refine ⟨_, rfl, _, rfl, p3, _, rfl, SqL.of hp3, fun p4 f4 => ?_⟩
    have s4 : Same H3 (upd H3 p4 (.lst (xs.drop a ++ xs.take a).reverse)) := Same.new f4
    have hp4 : (upd H3 p4 (.lst (xs.drop a ++ xs.take a).reverse)) p4 = some (.lst (xs.drop a ++ xs.take a).reverse) := upd_same
    have n4 : H1 p4 = none := s3.free f4
    generalize upd H3 p4 (.lst (xs.drop a ++ xs.take a).reverse) = H4 at s4 hp4 ⊢
    refine ⟨by show 2 ≤ sizeLine; decide, fun p5 f5 => ?_⟩
    have s5 : Same H1 (upd H4 p5 (.lst [.ref p3, .ref p4])) := (s3.trans s4).trans (Same.new f5)
    have h3 := (Same.new (o := .lst [.ref p3, .ref p4]) f5) _ _ (s4 _ _ hp3)
    have h4 := (Same.new (o := .lst [.ref p3, .ref p4]) f5) _ _ hp4
    have h5 : (upd H4 p5 (.lst [.ref p3, .ref p4])) p5 = some (.lst [.ref p3, .ref p4]) := upd_same
    have n5 : H1 p5 = none := (s3.trans s4).free f5
    generalize upd H4 p5 (.lst [.ref p3, .ref p4]) = H5 at s5 h3 h4 h5 ⊢
    have np : ∀ {b : Addr}, H1 b = none → b ≠ p := fun {b} e => by obtain ⟨_, _, _, e', _⟩ := S1; exact Ne.symm (ne_of_none e' e)
    have S5 : Src H5 p (k + 1) := src S1 fun o e => s5 _ _ e
    refine ⟨_, rfl, p, _, _, rfl, S5, by omega, by decide, by decide, fun r H6 r0 r1 S6 k6 => ?_⟩
    have frame : ∀ b o, H b = some o → b ≠ p → H6 b = some o := fun b o e nb => by
      rw [k6 b nb]
      exact s5 _ _ (by rw [k1 b nb]; exact e)
    have back : ∀ {b : Addr}, H1 b = none → H b = none := fun {b} e => by rw [← k1 b (np e)]; exact e
    have hp5 : H6 p5 = some (.lst [.ref p3, .ref p4]) := by rw [k6 _ (np n5)]; exact h5
    by_cases c : r = 0
    · subst c
      refine ⟨p5, _, 0, _, rfl, rfl, SqL.of hp5, rfl, q p3 a false H6 ?_ (back n3) (S6.mono (by omega)) frame⟩
      rw [k6 _ (np n3)]
      exact h3
    · obtain rfl : r = 1 := by omega
      refine ⟨p5, _, 1, _, rfl, rfl, SqL.of hp5, rfl, q p4 a true H6 ?_ (back n4) (S6.mono (by omega)) frame⟩
      rw [k6 _ (np n4)]
      exact h4
end
end L2.W
-- MOD K7K
namespace L2.W
open PySem My
theorem field_inv {G : Addr → Prop} {H : Hp} {v : V} {f : Str × List Str} (h : Has G H v (fieldD f)) : ∃ a l, v = .ref a ∧ H a = some (.tup [.str f.1, .ref l]) ∧ H l = some (.lst (f.2.map V.str)) := by
  obtain ⟨a, xs, rfl, _, ha, _, hx⟩ := h.tup_inv
  cases hx with
  | cons h1 hx =>
    cases hx with
    | cons h2 hx =>
      cases hx
      obtain ⟨rfl, _⟩ := h1.str_inv
      obtain ⟨l, ys, rfl, _, hl, _, hy⟩ := h2.list_inv
      refine ⟨a, l, rfl, ha, ?_⟩
      rw [hl]
      congr 2
      clear hl h2 ha h
      generalize f.2 = vs at hy
      induction vs generalizing ys with
      | nil => cases hy; rfl
      | cons x r ih =>
        cases hy with
        | cons q t =>
          obtain ⟨rfl, _⟩ := q.str_inv
          rw [List.map_cons, ih _ (by simp at *; omega) t]
/-! ### kinds made of rows -/
theorem row_inv {G : Addr → Prop} {H : Hp} {v : V} {r : Row} (h : Has G H v (rowD r)) : ∃ t lf, v = .ref t ∧ H t = some (.tup [.str r.name, .ref lf, ownV r.owner]) ∧ Has G H (.ref lf) (.list (r.fields.map fieldD)) := by
  obtain ⟨t, xs, rfl, g, e, _, hx⟩ := h.tup_inv
  cases hx with
  | cons h1 h2 =>
    cases h2 with
    | cons h3 h4 =>
      cases h4 with
      | @cons x _ _ _ h5 h6 =>
        cases h6
        obtain ⟨rfl, _⟩ := h1.str_inv
        obtain ⟨lf, ys, rfl, _⟩ := id h3.list_inv
        have eo : x = ownV r.owner := by
          cases er : r.owner with
          | none => rw [er] at h5; cases h5; rfl
          | some o => rw [er] at h5; exact h5.str_inv.1
        subst eo
        exact ⟨t, lf, rfl, e, h3⟩
theorem init_ownF {C x dx : Addr} {H : Hp} {r : Row} {vf : V} {Q : VK} {E : XK} (hx : H x = none) (hdx : H dx = none) (ne : dx ≠ x) (hn : nameOk r.name) (hf : Has Any H vf (.list (r.fields.map fieldD))) (ok : FieldsOk r.fields) (ho : ∀ o, r.owner = some o → nameOk o ∧ o ≠ r.name)
    (k : ∀ H' l, Same H H' → H' x = some (.ins C dx (kflds (.str r.name) (.ref l) (ownV r.owner))) → Has (fun a => H a = none) H' (.ref l) (.list (r.fields.map fieldD)) → Q .non H') :
    spInit C (.ref x :: ([.str r.name, vf, ownV r.owner] ++ [])) (upd (upd H dx (.own x)) x (.ins C dx [])) Q E := by
  have hx2 : (upd H dx (.own x)) x = none := by rw [upd_ne ne.symm]; exact hx
  have s : Same H (upd (upd H dx (.own x)) x (.ins C dx [])) := (Same.new hdx).trans (Same.new hx2)
  refine ⟨x, dx, vf, ownV r.owner, r.name, _, ownD r.owner, rfl, upd_same, by have := hn.2.2; omega, hn.2.1, hn.1, hf.mono s, (fields_ok ok).1, own_has fun o e => (ho o e).1, ?_, (fields_ok ok).2, fun H' l hp hl fr => k H' l (fun b o e => fr b o (s _ _ e) (ne_of_none e hx)) hp (hl.frame fun b o g e => ⟨s.free g, e⟩)⟩
  cases eo : r.owner with
  | none => rfl
  | some o =>
    obtain ⟨h1, h2⟩ := ho o eo
    show (nameB o && !decide (o = r.name)) = true
    rw [h1.1, decide_eq_false h2]
    rfl
noncomputable def KF (C : Addr) (G : Addr → Prop) (H : Hp) (p : Addr) (r : Row) : Prop := ∃ dx l, H p = some (.ins C dx (kflds (.str r.name) (.ref l) (ownV r.owner))) ∧ Has G H (.ref l) (.list (r.fields.map fieldD))
theorem KF.o {C : Addr} {G : Addr → Prop} {H : Hp} {p : Addr} {r : Row} (h : KF C G H p r) : KindO C H p r := let ⟨dx, l, e, _⟩ := h; ⟨dx, l, e⟩
theorem KF.frame {C : Addr} {G G' : Addr → Prop} {H H' : Hp} {p : Addr} {r : Row} (h : KF C G H p r) (h1 : ∀ b o, H b = some o → (∃ C dx fs, o = .ins C dx fs) → H' b = some o) (h2 : ∀ b o, G b → isSeq o → H b = some o → G' b ∧ H' b = some o) : KF C G' H' p r :=
  let ⟨dx, l, e, d⟩ := h
  ⟨dx, l, h1 _ _ e ⟨_, _, _, rfl⟩, d.frameS h2⟩
theorem RowsP.owner {rs : List Row} (h : RowsP rs) {r : Row} {o : Str} (hr : r ∈ rs) (e : r.owner = some o) : nameOk o ∧ o ≠ r.name := by
  obtain ⟨r0, ok, p⟩ := h
  obtain ⟨a, b, _⟩ := ok.owner (p.mem_iff.mp hr) e
  exact ⟨a, b⟩
noncomputable def spMade (CK C Pt : Addr) : Sp := fun vs H Q _ => ∃ (l : Addr) (rs : List Row), vs = [.ref l] ∧ Has Any H (.ref l) (.list (rs.map rowD)) ∧ RowsP rs ∧ TabOk H Pt lamPos lamQ ∧
  ∀ (q d : Addr) (ord : List Str) (kvs : List (Key × V)) (zs : List (Addr × Row)) (H' : Hp), KindsAt CK H' q d kvs → H q = none → H d = none → Zs C H' zs → (∀ q ∈ zs, KF C (fun a => H a = none) H' q.1 q.2) → zs.map (·.2) = rs → Placed zs ord kvs → Greedy (· ∈ rs) ord → ord.length = rs.length → TabOk H' Pt lamPos lamQ → GrownBut Pt H H' → Q (.ref q) H'
section
variable {P : Program} {w : World} {K : PySem.W.Frag} {mg : Str → Option Value} {base : Heap} {CX : CXT}
theorem scMa : FnScope ["_law_specs_here", "_law_got", "_law_name", "_law_fields_here", "_law_owner"] ["_law_specs_here"] (defScope sMade) := ⟨rfl, rfl, rfl, by decide +kernel, rfl, by decide +kernel, by decide +kernel⟩
theorem ok_made {f C fI CK fIk fOr fOf fOw Pt : Addr} {fd fdI fdk : FuncData} (hC : Calm CX) (T : Tops K mg) (KC : KCls K mg C fI) (KS : KsCls K mg CK fIk fOr fOf fOw) (GK : FnOk P w K mg base CX 5 fI fdI ["self", "name", "fields", "owner"] (spInit C)) (bK : Binds K fdI ["self", "name", "fields", "owner"] [])
    (GS : FnOk P w K mg base CX 5 fIk fdk ["self", "kinds"] (spInitKs CK C Pt)) (bS : Binds K fdk ["self", "kinds"] []) (F : Fun K "_law_made" "_law_made" sMade f fd) : FnOk P w K mg base CX 7 f fd ["_law_specs_here"] (spMade CK C Pt) := by
  refine Fun.okC F scMa (fun vs H Q E h => ?_) (fun cdv A outer s H vs Q E hr h => ?_)
  · obtain ⟨l, rs, rfl, _⟩ := h
    rfl
  · obtain ⟨l, rs, rfl, hl, rp, hT, q⟩ := h
    have nd := scMa.nd
    refine ⟨_, pss_cons (ps_set (i := 1) nd rfl (Or.inl rfl) (pe_lst pa_nil))
      (pss_cons (ps_for PassesOwn.never rfl (pi_list (pv 0)) (pg_tup rfl (pgs_cons (pg_name (i := 2) nd rfl (Or.inl rfl)) (pgs_cons (pg_name (i := 3) nd rfl (Or.inl rfl)) (pgs_cons (pg_name (i := 4) nd rfl (Or.inl rfl)) pgs_nil))))
        (pss_one (ps_expr (pe_bm PySem.F.plainAttrs_list PySem.F.slot_list_append PySem.F.type_list_append mt_append (pv 1) (pa_cons (pe_make KC.mkd GK hr rfl KC.mgC bK .nil (passC hC) (pa_cons (pv 2) (pa_cons
          (pe_comp (T := ["_law_field", "_law_values"]) rfl ScOk.auto (pi_list (pv 3)) (fun _ _ _ _ => pg_tupK (K := K) (n := 2) rfl rfl (pgs_cons (pg_name (i := 5) (by decide +kernel : (["_law_specs_here", "_law_got", "_law_name", "_law_fields_here", "_law_owner", "_law_field", "_law_values"] : List Str).Nodup) rfl (Or.inl rfl)) (pgs_cons (pg_name (i := 6) (by decide +kernel : (["_law_specs_here", "_law_got", "_law_name", "_law_fields_here", "_law_owner", "_law_field", "_law_values"] : List Str).Nodup) rfl (Or.inl rfl)) pgs_nil))) (fun _ _ _ _ => pf_nil)
            (fun _ _ _ _ => pe_tup (pa_cons (pv 5) (pa_cons (pe_callTy (r := fun xs H Q => ∃ p ys, xs = [.ref p] ∧ (SqL K H p ys ∨ SqT K H p ys) ∧ ∀ l, H l = none → Q (.ref l) (upd H l (.lst ys))) call_list_of rfl T.list PyProof.Rows.boot_list (pa_cons (pv 6) pa_nil)) pa_nil))))
          (pa_cons (pv 4) pa_nil)))) pa_nil)))))
      (pss_one (ps_ret (pe_make KS.mkd GS hr rfl KS.mgC bS .nil (passC hC) (pa_cons (pv 1) pa_nil))))), ?_⟩
    have small : ∀ n : Nat, n ≤ 1000 → n ≤ sizeLine := fun n h => Nat.le_of_lt (small1000 h)
    obtain ⟨l', xs, e, _, hl1, hz, hx⟩ := hl.list_inv
    cases e
    have xl : xs.length = rs.length := by rw [hx.length, List.length_map]
    obtain ⟨r0, r5⟩ := rp.le
    refine ⟨Nat.zero_le _, fun lg fg => ?_⟩
    refine ⟨_, rfl, l, rfl, ⟨_, SqL.of ((Same.new fg) _ _ hl1)⟩, for_list (K := K) (a := l) (xs := xs) (fun i σ H2 => ∃ (zs : List (Addr × Row)) (x2 x3 x4 : Option V), σ = [some (.ref l), some (.ref lg), x2, x3, x4] ∧ H2 lg = some (.lst (zs.map fun q => V.ref q.1)) ∧ zs.map (·.2) = rs.take i ∧ (∀ q ∈ zs, KF C (fun a => H a = none ∧ a ≠ lg) H2 q.1 q.2) ∧ Same H H2)
      ⟨[], none, none, none, rfl, upd_same, rfl, (fun q h => nomatch h), Same.new fg⟩ (fun i σ H2 _ ⟨_, _, _, _, _, _, _, _, s2⟩ => SqL.of (s2 _ _ hl1)) ?_ ?_⟩
    · rintro i x σ H2 hi ⟨zs, x2, x3, x4, rfl, hg2, hzs, hk2, s2⟩
      obtain ⟨dd, hdd, hv⟩ := hx.get hi
      rw [List.getElem?_map] at hdd
      cases er : rs[i]? with
      | none => rw [er] at hdd; cases hdd
      | some r =>
        rw [er] at hdd
        cases hdd
        have mr := List.mem_of_getElem? er
        obtain ⟨onm, ofs⟩ := rp.ok r mr
        obtain ⟨t, lf, rfl, ht, hf⟩ := row_inv hv
        have hf2 := hf.mono s2
        obtain ⟨lf', fs, e, _, hlf, hlz, hfx⟩ := hf2.list_inv
        cases e
        have zl : zs.length ≤ i := by
          have := congrArg List.length hzs
          rw [List.length_map, List.length_take] at this
          omega
        have il : i < rs.length := (List.getElem?_eq_some_iff.mp er).1
        refine ⟨t, _, rfl, SqT.of (s2 _ _ ht), rfl, _, _, rfl, _, _, rfl, _, _, rfl, rfl, ?_⟩
        refine ⟨_, rfl, .inl ⟨rfl, _, SqL.of hg2⟩, _, rfl, _, rfl, lf, rfl, ⟨_, SqL.of hlf⟩, comp_list (xs := fs) (fun j ys H' => Same H2 H' ∧ HasAll Any H' ys ((r.fields.take j).map fieldD)) ⟨Same.refl _, .nil⟩ (fun j ys H' z => SqL.of (z.1 _ _ hlf)) (fun j ys H' hj z => ?_) ?_ ?_⟩
        · have := z.2.length
          rw [List.length_map] at this
          have := List.length_take_le' j r.fields
          have := ofs.le
          exact small _ (by omega)
        · rintro j y ys H' hj ⟨s6, hy⟩ N hN
          obtain ⟨d, hd, hv⟩ := hfx.get hj
          rw [List.getElem?_map] at hd
          cases ef : r.fields[j]? with
          | none => rw [ef] at hd; cases hd
          | some f =>
            rw [ef] at hd
            cases hd
            obtain ⟨b, lv, rfl, hb, hlv⟩ := field_inv hv
            refine pickT (SqT.of (s6 _ _ hb)) ?_
            obtain ⟨okn, okv⟩ := ofs.ok f (List.mem_of_getElem? ef)
            refine ⟨_, rfl, _, rfl, lv, _, rfl, .inl (SqL.of (s6 _ _ hlv)), fun l3 hl3 => ⟨by show 2 ≤ sizeLine; exact small 2 (by decide), fun t ht => hN _ _ ⟨(s6.trans (Same.new hl3)).trans (Same.new ht), ?_⟩⟩⟩
            rw [List.take_add_one, ef, List.map_append]
            refine HasAll.snoc (hy.mono ((Same.new hl3).trans (Same.new ht))) (.tup trivial upd_same (by show 2 ≤ 1000; decide) (.cons (.str _ (by have := okn.2.2; omega) okn.2.1) (.cons (.lst trivial ((Same.new ht) _ _ upd_same) ?_ (names_has okv.ok)) .nil)))
            rw [List.length_map]
            have := okv.le
            omega
        · rintro ys H' ⟨s6, hy⟩ ln hln
          have ex : fs.length = r.fields.length := by rw [hfx.length, List.length_map]
          rw [ex, List.take_length] at hy
          have s7 : Same H2 (upd H' ln (.lst ys)) := s6.trans (Same.new hln)
          have hf7 : Has Any (upd H' ln (.lst ys)) (.ref ln) (.list (r.fields.map fieldD)) := .lst trivial upd_same (by rw [hy.length, List.length_map]; have := ofs.le; omega) (hy.mono (Same.new hln))
          generalize upd H' ln (.lst ys) = H7 at s7 hf7 ⊢
          refine ⟨_, rfl, ?_⟩
          intro x dx hx' hdx hne
          refine init_ownF hx' hdx hne onm hf7 ofs (fun o e => rp.owner mr e) fun H8 lf8 s8 e8 d8 => ⟨rfl, ?_⟩
          have s28 := s7.trans s8
          have hg8 := s28 _ _ hg2
          refine ⟨lg, _, _, rfl, rfl, hg8, by rw [List.length_map]; exact small1000 (by omega), ?_⟩
          have kk : ∀ {p : Addr} {r : Row}, KF C (fun a => H a = none ∧ a ≠ lg) H8 p r → KF C (fun a => H a = none ∧ a ≠ lg) (upd H8 lg (.lst ((zs.map fun q => V.ref q.1) ++ [V.ref x]))) p r := fun h => h.frame (fun b o e ⟨_, _, _, eo⟩ => by rw [upd_ne (ne_of e hg8 (by rw [eo]; exact fun z => nomatch z))]; exact e) fun b o g _ e => ⟨g, by rw [upd_ne g.2]; exact e⟩
          have kd8 : KF C (fun a => H a = none ∧ a ≠ lg) H8 x r := ⟨dx, lf8, e8, d8.frame fun b o g e => ⟨⟨(s2.trans s7).free g, fun z => (by rw [z, s7 _ _ hg2] at g; cases g)⟩, e⟩⟩
          refine ⟨zs ++ [(x, r)], _, _, _, rfl, by rw [upd_same, List.map_append]; rfl, by rw [List.map_append, hzs, List.take_add_one, er]; rfl, fun q hq => ?_, fun b o e => ?_⟩
          · rcases List.mem_append.mp hq with hq | hq
            · exact kk ((hk2 q hq).frame (fun b o e _ => s28 _ _ e) fun b o g _ e => ⟨g, s28 _ _ e⟩)
            · rw [List.mem_singleton.mp hq]
              exact kk kd8
          · rw [upd_ne (ne_of_none e fg)]
            exact s28 _ _ (s2 _ _ e)
    · rintro σ H2 ⟨zs, x2, x3, x4, rfl, hg2, hzs, hk2, s2⟩
      rw [xl, List.take_length] at hzs
      have zl : zs.length = rs.length := by rw [← hzs, List.length_map]
      refine ⟨_, rfl, ?_⟩
      intro x dx hx' hdx hne
      have hx2 : (upd H2 dx (.own x)) x = none := by rw [upd_ne hne.symm]; exact hx'
      have s3 : Same H2 (upd (upd H2 dx (.own x)) x (.ins CK dx [])) := (Same.new hdx).trans (Same.new hx2)
      refine ⟨x, dx, lg, zs, rfl, upd_same, s3 _ _ hg2, ⟨fun q hq => (hk2 q hq).o.mono fun b o e _ => s3 _ _ e, ?_, by omega⟩, by rw [hzs]; exact rp, (hT.same s2).same s3, fun d ord kvs H' hp' hd' hd2 hpl hgr hlen hT' fr => ⟨rfl, ?_⟩⟩
      · have := rp.nd
        rw [← hzs, List.map_map] at this
        exact this
      · have fr2 : ∀ b o, H2 b = some o → b ≠ Pt → H' b = some o := fun b o e nb => fr b o (s3 _ _ e) (ne_of_none e hx') nb
        have hT2 := hT.same s2
        rw [hzs] at hgr
        refine q x d ord kvs zs H' ⟨⟨dx, hp'⟩, .inl hd2⟩ (s2.free hx') (s2.free (s3.free hd')) ⟨fun q hq => ?_, ?_, by omega⟩ (fun q hq => (hk2 q hq).frame (fun b o e ⟨_, _, _, eo⟩ => fr2 _ _ e (hT2.ne e (by rw [eo]; exact fun _ z => nomatch z))) fun b o g hs e => ⟨g.1, fr2 _ _ e (hT2.ne e (by rintro ps rfl; exact hs))⟩) hzs hpl hgr (by omega) hT' fun b o e nb => fr2 b o (s2 _ _ e) nb
        · obtain ⟨dx', l', e⟩ := (hk2 q hq).o
          exact ⟨dx', l', fr2 _ _ e (hT2.ne e fun _ z => nomatch z)⟩
        · have := rp.nd
          rw [← hzs, List.map_map] at this
          exact this
end
end L2.W
-- MOD K7L
namespace L2.W
open PySem My
/-! ### what no kind is called -/
structure XTop (K : PySem.W.Frag) (mg : Str → Option Value) (x : Str) (CN : Addr) : Prop where
  at_ : mg x = some (.ref CN)
  cl : PySem.W.excIn K CN [.type "ValueError", .type "Exception", .type "BaseException", .type "object"] "ValueError.__new__" = true
inductive NoNm (K : PySem.W.Frag) (H : Hp) (kvs : List (Key × V)) : V → Prop where
  | ty {v : V} {t : Value} (h : TyOf K H v t) (e : PySem.W.kitOne K t (.type "str") = some false) : NoNm K H kvs v
  | st {n : Str} (l : n.length ≤ 1000) (h : nameB n = false) : NoNm K H kvs (.str n)
  | out {n : Str} (l : n.length ≤ 1000) (h : nameB n = true) (e : valV kvs (Sum.inr n) = none) : NoNm K H kvs (.str n)
noncomputable def Refused (C1 : Addr) (H : Hp) (E : XK) : Prop := ∀ (e : Addr) (H' : Hp), H e = none → H' e = some (XO C1 e) → Same H H' → E (.ref C1) (some e) H'
noncomputable def spOfNo (K : PySem.W.Frag) (CK C1 : Addr) : Sp := fun vs H _ E => ∃ (p d : Addr) (kvs : List (Key × V)) (v : V), vs = [.ref p, v] ∧ NoNm K H kvs v ∧ KindsAt CK H p d kvs ∧ Refused C1 H E
section
variable {P : Program} {w : World} {K : PySem.W.Frag} {mg : Str → Option Value} {base : Heap}
theorem ok_ofNo {f fn CK C1 fIk fOr fOf fOw : Addr} {fd fdn : FuncData} (T : Tops K mg) (XN : XTop K mg "NoName" C1) (KS : KsCls K mg CK fIk fOr fOf fOw) (F : Fun K "of" "Kinds.of" sOf f fd) (DN : Def K mg "is_name" sIsName ["thing"] fn fdn) : FnOk P w K mg base (CXM P w) 2 f fd ["self", "name"] (spOfNo K CK C1) := by
  have GN : FnOk P w K mg base (CXM P w) 1 fn fdn ["thing"] (spIsName K) := ok_isName DN.fn T
  refine Fun.okX F scOf (fun vs H Q E h => ?_) (fun cdv A outer s H vs Q E hr h => ?_)
  · obtain ⟨p, d, kvs, v, rfl, _⟩ := h
    rfl
  · obtain ⟨p, d, kvs, v, rfl, bad, ⟨⟨dx, hp⟩, rd⟩, k⟩ := h
    have hu := hu_of hr
    refine ⟨_, pss_cons (ps_if (PW.pt (pw_or (pt_not (pt_val (pe_call GN hr rfl DN.at_ DN.fn.kp DN.bind .nil (passC calmM) (pa_cons (pv 1) pa_nil)))) (pw_or1 (pt_cmp (pc_dnotin hu (pv 1) (pe_fld (pv 0) rfl)))))) (pss_one (ps_raise (C := C1) (W := fun _ e H' => E (.ref C1) (some e) H') XN.cl rfl XN.at_ rfl (pa_cons pe_str pa_nil) (fun pins σ H s e I he fr w => xe_new I he (.inl fr) w))) pss_nil)
      pss_never, ?_⟩
    have raised : ∀ H1 : Hp, Same H H1 → 1 ≤ sizeLine ∧ ∀ e, H1 e = none → E (.ref C1) (some e) (upd H1 e (XO C1 e)) := fun H1 s1 => ⟨Nat.le_of_lt (small1000 (by decide)), fun e he => k e _ (s1.free he) upd_same (s1.trans (Same.new he))⟩
    cases bad with
    | ty h e => exact ⟨_, rfl, .inr ⟨_, _, rfl, h, e, _, rfl, iteT (raised _ (Same.refl _))⟩⟩
    | @st n l h =>
      refine ⟨_, rfl, .inl ⟨n, rfl, l, fun H1 s1 => ⟨_, rfl, ?_⟩⟩⟩
      rw [h]
      exact iteT (raised _ s1)
    | @out n l h e =>
      refine ⟨_, rfl, .inl ⟨n, rfl, l, fun H1 s1 => ⟨_, rfl, ?_⟩⟩⟩
      rw [h]
      refine iteF ⟨_, rfl, _, rfl, p, CK, dx, _, _, rfl, s1 _ _ hp, KS.cl, KS.nB, ks_by _, d, _, rfl, .inl ⟨kvs, Sum.inr n, rd_same s1 rd, rfl, rfl⟩, _, rfl, ?_⟩
      rw [e]
      exact iteT (raised _ s1)
theorem ok_ownedNo {f CK C1 fIk fOr fOf fOw : Addr} {fd fdo : FuncData} (KS : KsCls K mg CK fIk fOr fOf fOw) (F : Fun K "owned" "Kinds.owned" sOwned f fd) (GO : FnOk P w K mg base (CXM P w) 2 fOf fdo ["self", "name"] (spOfNo K CK C1)) (bO : Binds K fdo ["self", "name"] []) :
    FnOk P w K mg base (CXM P w) 3 f fd ["self", "name"] (spOfNo K CK C1) := by
  refine Fun.okX F scOw (fun vs H Q E h => ?_) (fun cdv A outer s H vs Q E hr h => ?_)
  · obtain ⟨p, d, kvs, v, rfl, _⟩ := h
    rfl
  · obtain ⟨p, d, kvs, v, rfl, bad, ⟨⟨dx, hp⟩, rd⟩, k⟩ := h
    have nd := scOw.nd
    refine ⟨_, pss_cons (ps_set (i := 2) nd rfl (Or.inr rfl) (pe_fld (pe_meth (pv 0) KS.cl KS.mOf GO hr bO .nil pass_on (pa_cons (pv 1) pa_nil)) rfl)) pss_never, ?_⟩
    exact ⟨_, rfl, p, dx, _, rfl, hp, ks_no _ (by decide +kernel), _, rfl, p, d, kvs, v, rfl, bad, ⟨⟨dx, hp⟩, rd⟩, k⟩
end
/-! ### the lambdas of the law -/
noncomputable def wordArg : Stmt → Expr
  | .If (.Compare (.Call _ [l] _ _) _ _ _) _ _ _ => l
  | _ => .Constant .none 0 ⟨0, 0, 0, 0⟩
noncomputable def lamP : Expr → Arguments
  | .Lambda p _ _ _ => p
  | _ => ⟨[], [], none, [], [], none, []⟩
noncomputable def lamB : Expr → Expr
  | .Lambda _ b _ _ => b
  | _ => .Constant .none 0 ⟨0, 0, 0, 0⟩
noncomputable def lamS : Expr → Scope
  | .Lambda _ _ s _ => s
  | _ => default
noncomputable def ifBody : Stmt → List Stmt
  | .If _ b _ _ => b
  | _ => []
noncomputable def forBody : Stmt → List Stmt
  | .For _ _ b _ _ => b
  | _ => []
noncomputable def stAt (l : List Stmt) (i : Nat) : Stmt := l.getD i (.Pass ⟨0, 0, 0, 0⟩)
end L2.W
-- MOD K7M
namespace L2.W
open PySem My
/-! ### the word for what is asked -/
noncomputable abbrev lam1 : Expr := wordArg (stAt (ifBody (stAt (forBody (stAt (defBody sLaw) 1)) 5)) 0)
noncomputable abbrev lam2 : Expr := wordArg (stAt (ifBody (stAt (forBody (stAt (defBody sLaw) 1)) 5)) 1)
noncomputable abbrev lamN : List Str := ["_law_kinds", "_law_thing"]
noncomputable def lawQ : Str := (("law" : Str) ++ ".<locals>.") ++ "<lambda>"
theorem scLam1 : LScope lamN (lamS lam1) := ⟨by decide +kernel, rfl, rfl, rfl, by decide +kernel⟩
theorem scLam2 : LScope lamN (lamS lam2) := ⟨by decide +kernel, rfl, rfl, rfl, by decide +kernel⟩
structure Refs (K : PySem.W.Frag) (mg : Str → Option Value) (C1 CR CN C2 C3 : Addr) : Prop where
  no : XTop K mg "NoName" C1
  x : XCls K C1
  rest : mg "RestError" = some (.ref CR)
  n1 : mg "NoKind" = some (.ref CN)
  n2 : mg "NoWish" = some (.ref C2)
  n3 : mg "TooMany" = some (.ref C3)
  ve : mg "ValueError" = none
  exm : PySem.W.exmOne K (.ref C1) (.ref CR) = some true
  one : PySem.W.kitOne K (.ref C1) (.ref C1) = some true
  val : PySem.W.kitOne K (.ref C1) (.type "ValueError") = some true
  oth : PySem.W.kitAny K (.ref C1) [.ref CN, .ref C2, .ref C3] = some false
noncomputable def spWordL (C1 : Addr) (q : Str) (Th : List V → Hp → VK → XK → Prop) (f c' : Addr) (cl : List (Str × Addr)) (ws : List V) : Sp := fun vs H Q _ => vs = [.ref f] ∧ FreeL H f cl ∧ H c' = some (CodeO c' q) ∧ (∀ (Q' : VK) (E' : XK), Refused C1 H E' → Th ws H Q' E') ∧ ∀ H', Same H H' → Q (.str "name") H'
section
variable {P : Program} {w : World} {K : PySem.W.Frag} {mg : Str → Option Value} {base : Heap}
theorem ok_lam1 {CK C1 fIk fOr fOf fOw f c' : Addr} {fdo : FuncData} {cl : List (Str × Addr)} {ws : List V} (KS : KsCls K mg CK fIk fOr fOf fOw) (GO : FnOk P w K mg base (CXM P w) 2 fOf fdo ["self", "name"] (spOfNo K CK C1)) (bO : Binds K fdo ["self", "name"] []) :
    LamOk P w K mg base (CXM P w) 3 f c' lawQ (lamP lam1) (lamB lam1) (lamS lam1) cl lamN ws (fun H Q E => spOfNo K CK C1 ws H Q E) := by
  refine lam_of scLam1 (fun _ _ => rfl) fun A outer s H Q E hr h => ?_
  obtain ⟨p, d, kvs, v, rfl, bad, ⟨⟨dx, hp⟩, rd⟩, k⟩ := h
  exact ⟨_, pe_meth (pv 0) KS.cl KS.mOf GO hr bO .nil pass_onL (pa_cons (pv 1) pa_nil), _, rfl, p, dx, _, rfl, hp, ks_no _ (by decide +kernel), _, rfl, p, d, kvs, v, rfl, bad, ⟨⟨dx, hp⟩, rd⟩, k⟩
theorem ok_lam2 {CK C1 fIk fOr fOf fOw f c' : Addr} {fdo : FuncData} {cl : List (Str × Addr)} {ws : List V} (KS : KsCls K mg CK fIk fOr fOf fOw) (GO : FnOk P w K mg base (CXM P w) 3 fOw fdo ["self", "name"] (spOfNo K CK C1)) (bO : Binds K fdo ["self", "name"] []) :
    LamOk P w K mg base (CXM P w) 4 f c' lawQ (lamP lam2) (lamB lam2) (lamS lam2) cl lamN ws (fun H Q E => spOfNo K CK C1 ws H Q E) := by
  refine lam_of scLam2 (fun _ _ => rfl) fun A outer s H Q E hr h => ?_
  obtain ⟨p, d, kvs, v, rfl, bad, ⟨⟨dx, hp⟩, rd⟩, k⟩ := h
  exact ⟨_, pe_meth (pv 0) KS.cl KS.mOw GO hr bO .nil pass_onL (pa_cons (pv 1) pa_nil), _, rfl, p, dx, _, rfl, hp, ks_no _ (by decide +kernel), _, rfl, p, d, kvs, v, rfl, bad, ⟨⟨dx, hp⟩, rd⟩, k⟩
theorem scWd : FnScope ["_law_asked", "_law_word_here", "_law_others", "e"] ["_law_asked"] (defScope sWord) := ⟨rfl, rfl, rfl, by decide +kernel, rfl, by decide +kernel, by decide +kernel⟩
theorem ok_word {fw f c' C1 CR CN C2 C3 : Addr} {fd : FuncData} {q : Str} {params : Arguments} {body : Expr} {scope : Scope} {cl : List (Str × Addr)} {N : List Str} {ws : List V} {Th : List V → Hp → VK → XK → Prop} (T : Tops K mg) (R : Refs K mg C1 CR CN C2 C3) (F : Fun K "_law_word" "_law_word" sWord fw fd)
    (G : LamOk P w K mg base (CXM P w) 4 f c' q params body scope cl N ws (Th ws)) :
    FnOkS (LamAt f c' q params body scope cl N ws) P w K mg base (CXM P w) 5 fw fd ["_law_asked"] (spWordL C1 q Th f c' cl ws) := by
  refine Fun.okS F scWd (fun vs H Q E h => ?_) (fun cdv A outer s H vs Q E hL hr h => ?_)
  · obtain ⟨rfl, _⟩ := h
    rfl
  · obtain ⟨rfl, fr, hc, th, k⟩ := h
    have nd := scWd.nd
    refine ⟨_, pss_cons (ps_set (i := 1) nd rfl (Or.inl rfl) pe_str)
      (pss_cons (ps_try (i := 3) (B := CR) rfl rfl rfl nd rfl rfl rfl R.rest (fun pins W => pss_one (ps_expr (pe_ask (i := 0) G hr (pass_try rfl) hL fr rfl rfl (Or.inl rfl))))
        (fun e => pss_cons (ps_set (i := 2) nd rfl (Or.inl rfl) (pe_callB (call_isinstT (K := K) rfl) rfl T.isinst PyProof.Rows.boot_isinstance (pa_cons (pv 3) (pa_cons (pe_tup (pa_cons (pe_glob (v := .ref CN) rfl R.n1 rfl) (pa_cons (pe_glob (v := .ref C2) rfl R.n2 rfl) (pa_cons (pe_glob (v := .ref C3) rfl R.n3 rfl) pa_nil)))) pa_nil))))
          (pss_one (ps_set (i := 1) nd rfl (Or.inl rfl) (pe_ix ix_list (pe_lst (pa_cons pe_str (pa_cons pe_str pa_nil)))
            (pe_callTy call_int1 rfl T.int PyProof.Rows.boot_int (pa_cons (pe_and (pe_callB (call_isinstX (K := K) rfl) rfl T.isinst PyProof.Rows.boot_isinstance (pa_cons (pv 3) (pa_cons (pe_glob (v := .ref C1) rfl R.no.at_ rfl) pa_nil)))
              (pe_and (pe_callB (call_isinstX (K := K) rfl) rfl T.isinst PyProof.Rows.boot_isinstance (pa_cons (pv 3) (pa_cons (pe_bltn (v := .ty "ValueError") rfl R.ve (by decide +kernel) rfl) pa_nil)))
                (pe_one (pe_not (pv 2))))) pa_nil)) (fun _ _ => rfl))))))
      (pss_one (ps_ret (pv 1)))), ?_⟩
    refine ⟨fun σ' e C' H' => C' = C1 ∧ σ' = [some (.ref f), some (.str "told"), none, none] ∧ Same H H', ⟨rfl, hc, th _ _ fun e H' _ _ s1 => ⟨e, C1, rfl, rfl, rfl, rfl, s1⟩⟩, ?_⟩
    rintro σ' e C' H' he ⟨rfl, rfl, s0⟩
    refine ⟨R.exm, ?_⟩
    refine ⟨_, rfl, by show 3 ≤ sizeLine; decide, fun t ht => ⟨e, _, t, [CN, C2, C3], false, rfl, (Same.new ht) _ _ he, R.x, upd_same, R.oth, ?_⟩⟩
    have s1 : Same H' (upd H' t (.tup [.ref CN, .ref C2, .ref C3])) := Same.new ht
    have he1 := s1 _ _ he
    generalize upd H' t (.tup [.ref CN, .ref C2, .ref C3]) = H1 at s1 he1 ⊢
    refine ⟨by show 2 ≤ sizeLine; decide, fun q hq => ?_⟩
    have s2 : Same H1 (upd H1 q (.lst [.str "other", .str "name"])) := Same.new hq
    have he2 := s2 _ _ he1
    have hq2 : (upd H1 q (.lst [.str "other", .str "name"])) q = some (.lst [.str "other", .str "name"]) := upd_same
    generalize upd H1 q (.lst [.str "other", .str "name"]) = H2 at s2 he2 hq2 ⊢
    refine ⟨_, rfl, e, _, _, .ref C', true, rfl, he2, R.x, rfl, R.one, (fun z => absurd rfl (z C')), _, rfl, iteT ?_⟩
    refine ⟨_, rfl, e, _, _, .type "ValueError", true, rfl, he2, R.x, rfl, R.val, (fun _ => ⟨_, rfl⟩), _, rfl, iteT ?_⟩
    refine ⟨_, rfl, _, rfl, .inr ⟨_, rfl, ?_⟩⟩
    refine ⟨q, _, 1, _, rfl, rfl, SqL.of hq2, rfl, ?_⟩
    exact ⟨_, rfl, k H2 (s0.trans (s1.trans s2))⟩
end
end L2.W
-- MOD K7N
namespace L2.W
open PySem My
theorem ne_same {G G' : Addr → Prop} {H : Hp} {x y : V} {Q : VK} {d : PyData} (hx : Has G H x d) (hy : Has G' H y d) (hd : d.depth ≤ 64) (q : Q (.bl false) H) : rNeD x y H Q := ⟨d, d, hx.any, hy.any, hd, hd, by rw [hx.eqv]; exact q⟩
theorem eq_same {G G' : Addr → Prop} {H : Hp} {x y : V} {Q : VK} {d : PyData} (hx : Has G H x d) (hy : Has G' H y d) (hd : d.depth ≤ 64) (q : Q (.bl true) H) : rEqD x y H Q := ⟨d, d, hx.any, hy.any, hd, hd, by rw [hx.eqv]; exact q⟩
theorem has_grown {G : Addr → Prop} {H H' : Hp} {v : V} {d : PyData} {Pt : Addr} {pos : Pos} {q : Str} (h : Has G H v d) (T : TabOk H Pt pos q) (g : GrownBut Pt H H') : Has G H' v d :=
  h.frameS fun a o ga hs e => ⟨ga, g a o e (T.ne e (by rintro ps rfl; exact hs))⟩
theorem cut_ints (ns : List Int) (lo hi : Option Int) : ∃ ms : List Int, cutV (ns.map V.int) lo hi = ms.map V.int ∧ ms.length ≤ ns.length := by
  unfold cutV
  rw [← List.map_drop, ← List.map_take]
  exact ⟨_, rfl, by rw [List.length_take, List.length_drop]; omega⟩
theorem strs_data {G : Addr → Prop} {H : Hp} {l : Addr} {ks : List Str} (g : G l) (e : H l = some (.lst (ks.map V.str))) (hl : ks.length ≤ 1000) (ok : ∀ x ∈ ks, nameOk x) : Has G H (.ref l) (.list (ks.map PyData.str)) := .lst g e (by rw [List.length_map]; exact hl) (names_has ok)
theorem depth_strs : ∀ ks : List Str, PyData.depthAll (ks.map PyData.str) ≤ 1
  | [] => by decide
  | k :: r => by
    have := depth_strs r
    show max (PyData.depth (.str k)) (PyData.depthAll (r.map PyData.str)) ≤ 1
    have h1 : PyData.depth (.str k) ≤ 1 := by first | decide | (show 0 ≤ 1; decide) | (show 1 ≤ 1; decide) | simp [PyData.depth]
    omega
theorem depth_list (ks : List Str) : PyData.depth (.list (ks.map PyData.str)) ≤ 64 := by
  have := depth_strs ks
  show PyData.depthAll (ks.map PyData.str) + 1 ≤ 64
  omega
theorem depth_fields : ∀ fs : List (Str × List Str), PyData.depthAll (fs.map fieldD) ≤ 4
  | [] => by decide
  | f :: r => by
    have h2 := depth_fields r
    have h1 := depth_strs f.2
    show max (PyData.depth (fieldD f)) (PyData.depthAll (r.map fieldD)) ≤ 4
    have h3 : PyData.depth (fieldD f) ≤ 4 := by
      show max (PyData.depth (.str f.1)) (max (PyData.depthAll (f.2.map PyData.str) + 1) (PyData.depthAll [])) + 1 ≤ 4
      have h4 : PyData.depth (.str f.1) ≤ 1 := by simp [PyData.depth]
      have h5 : PyData.depthAll [] ≤ 1 := by decide
      omega
    omega
theorem depth_flist (fs : List (Str × List Str)) : PyData.depth (.list (fs.map fieldD)) ≤ 64 := by
  have := depth_fields fs
  show PyData.depthAll (fs.map fieldD) + 1 ≤ 64
  omega
theorem ord_perm {rt : List Row} {ord : List Str} (g : Greedy (· ∈ rt) ord) (h : ord.length = rt.length) (nd : (rt.map (·.name)).Nodup) : ord.Perm (rt.map (·.name)) := by
  refine (List.perm_ext_iff_of_nodup g.nodup nd).mpr fun n => ⟨fun hn => ?_, fun hn => ?_⟩
  · obtain ⟨r, m, e⟩ := g.mem hn
    exact List.mem_map.mpr ⟨r, m, e⟩
  · refine Classical.byContradiction fun hno => ?_
    have := sub_len (a := n :: ord) (b := rt.map (·.name)) (List.nodup_cons.mpr ⟨hno, g.nodup⟩) fun x hx => by
      rcases List.mem_cons.mp hx with e | hx
      · rw [e]; exact hn
      · obtain ⟨r', m', e⟩ := g.mem hx
        exact List.mem_map.mpr ⟨r', m', e⟩
    rw [List.length_cons, List.length_map] at this
    omega
theorem sorted_eq {a b : List Str} (h1 : a.Pairwise fun x y => ¬ ltS y x) (h2 : b.Pairwise fun x y => ¬ ltS y x) (p : a.Perm b) : a = b := List.Perm.eq_of_pairwise (fun x y _ _ h h' => ltS_eq h' h) h1 h2 p
theorem ix_tupK {X : Cx} {K : PySem.W.Frag} (hK : X.K = K) : IxR X (rIxT K) := by
  subst hK
  exact ix_tup
/-! ### what is owned is right -/
theorem ys_names {zs : List (Addr × Row)} : ∀ {ord : List Str} {ys : List (Addr × Row)}, Paired (fun n q => q ∈ zs ∧ q.2.name = n) ord ys → ys.map (fun q => q.2.name) = ord
  | _, _, .nil => rfl
  | _, _, .cons r t => by rw [List.map_cons, ys_names t, r.2]
theorem nodup_of_map {α β : Type} (f : α → β) {l : List α} (h : (l.map f).Nodup) : l.Nodup := by
  refine List.Pairwise.imp ?_ (List.pairwise_map.mp h)
  intro a b n e
  exact n (by rw [e])
theorem one_of {α β : Type} {f : α → β} : ∀ {l : List α}, (l.map f).Nodup → ∀ {a b : α}, a ∈ l → b ∈ l → f a = f b → a = b
  | [], _, _, _, h, _, _ => by cases h
  | x :: l, nd, a, b, ha, hb, e => by
    rw [List.map_cons, List.nodup_cons] at nd
    rcases List.mem_cons.mp ha with h1 | h1
    · rcases List.mem_cons.mp hb with h2 | h2
      · rw [h1, h2]
      · exact absurd (List.mem_map.mpr ⟨b, h2, by rw [← e, h1]⟩) nd.1
    · rcases List.mem_cons.mp hb with h2 | h2
      · exact absurd (List.mem_map.mpr ⟨a, h1, by rw [e, h2]⟩) nd.1
      · exact one_of nd.2 h1 h2 e
theorem ys_perm {zs ys : List (Addr × Row)} {ord : List Str} (h : Paired (fun n q => q ∈ zs ∧ q.2.name = n) ord ys) (p : ord.Perm (zs.map fun q => q.2.name)) (nd : (zs.map fun q => q.2.name).Nodup) : ys.Perm zs := by
  have en := ys_names h
  have ndy : (ys.map fun q => q.2.name).Nodup := by rw [en]; exact p.nodup_iff.mpr nd
  refine (List.perm_ext_iff_of_nodup (nodup_of_map _ ndy) (nodup_of_map _ nd)).mpr fun q => ⟨paired_in h q, fun hq => ?_⟩
  have : q.2.name ∈ ys.map fun q => q.2.name := by
    rw [en]
    exact p.mem_iff.mpr (List.mem_map.mpr ⟨q, hq, rfl⟩)
  obtain ⟨y, hy, e⟩ := List.mem_map.mp this
  rw [← one_of nd (paired_in h y hy) hq e]
  exact hy
noncomputable def dueOf (rs : List Row) (n : Str) : List Str := (rs.filter fun r => decide (r.owner = some n)).map (·.name)
theorem own_due {zs ys : List (Addr × Row)} {rs : List Row} {ord ks : List Str} {n : Str} (h : Paired (fun n q => q ∈ zs ∧ q.2.name = n) ord ys) (p : ord.Perm (zs.map fun q => q.2.name)) (nd : (zs.map fun q => q.2.name).Nodup) (pz : (zs.map (·.2)).Perm rs) (o : ownedBy ys n ks) :
    ks.Perm (dueOf rs n) ∧ ks.Pairwise fun a b => ¬ ltS b a := by
  refine ⟨o.1.trans ((((ys_perm h p nd).filter _).map _).trans ?_), o.2⟩
  unfold dueOf
  refine List.Perm.trans (.of_eq ?_) ((pz.filter _).map _)
  rw [List.filter_map, List.map_map]
  rfl
theorem filter_snocR {rs : List Row} {i : Nat} {r : Row} (p : Row → Bool) (h : rs[i]? = some r) : (rs.take (i + 1)).filter p = if p r = true then (rs.take i).filter p ++ [r] else (rs.take i).filter p := by
  rw [List.take_add_one, h, List.filter_append]
  cases e : p r <;> simp [e]
noncomputable def spRight (CK C : Addr) : Sp := fun vs H Q _ => ∃ (p d l : Addr) (kvs : List (Key × V)) (n : Str) (zs : List (Addr × Row)) (ord : List Str) (rs : List Row), vs = [.ref p, .ref l, .str n] ∧ nameOk n ∧ KindsAt CK H p d kvs ∧ Zs C H zs ∧ Placed zs ord kvs ∧ ord.Perm (zs.map fun q => q.2.name) ∧ n ∈ ord ∧ (zs.map (·.2)).Perm rs ∧
  (∀ r ∈ rs, nameOk r.name) ∧ Has Any H (.ref l) (.list (rs.map rowD)) ∧ ∀ H', Rd H' d (.dK kvs) → (∀ b o, H b = some o → b ≠ d → H' b = some o) → Q (.bl true) H'
section
variable {P : Program} {w : World} {K : PySem.W.Frag} {mg : Str → Option Value} {base : Heap} {CX : CXT}
theorem scRi : FnScope ["_law_kinds", "_law_specs_here", "_law_name", "_law_due", "_law_got"] ["_law_kinds", "_law_specs_here", "_law_name"] (defScope sRight) := ⟨rfl, rfl, rfl, by decide +kernel, rfl, by decide +kernel, by decide +kernel⟩
theorem ok_right {f C CK fIk fOr fOf fOw : Addr} {fd fdo : FuncData} (hC : Calm CX) (T : Tops K mg) (KS : KsCls K mg CK fIk fOr fOf fOw) (F : Fun K "_law_right" "_law_right" sRight f fd) (GO : FnOk P w K mg base CX 3 fOw fdo ["self", "name"] (spOwned CK C)) (bO : Binds K fdo ["self", "name"] []) :
    FnOk P w K mg base CX 4 f fd ["_law_kinds", "_law_specs_here", "_law_name"] (spRight CK C) := by
  refine Fun.okC F scRi (fun vs H Q E h => ?_) (fun cdv A outer s H vs Q E hr h => ?_)
  · obtain ⟨p, d, l, kvs, n, zs, ord, rs, rfl, _⟩ := h
    rfl
  · obtain ⟨p, d, l, kvs, n, zs, ord, rs, rfl, nn, ka, hz, hpl, hop, hn, hzr, okr, hl, k⟩ := h
    have nd := scRi.nd
    refine ⟨_, pss_cons (ps_set (i := 3) nd rfl (Or.inl rfl) (pe_callB (call_sorted_strs (K := K) rfl) rfl T.sorted PyProof.Rows.boot_sorted (pa_cons (pe_comp (T := ["_law_spec"]) rfl ScOk.auto (pi_list (pv 1)) (fun _ _ _ _ => pg_name (i := 5) (by decide +kernel : (["_law_kinds", "_law_specs_here", "_law_name", "_law_due", "_law_got", "_law_spec"] : List Str).Nodup) rfl (Or.inl rfl))
        (fun _ _ _ _ => pf_one (pt_cmpR op_eq (pe_ix (ix_tupK (K := K) rfl) (pv 5) pe_int (fun _ _ => rfl)) (pv 2) (nomark _))) (fun _ _ _ _ => pe_ix (ix_tupK (K := K) rfl) (pv 5) pe_int (fun _ _ => rfl))) pa_nil)))
      (pss_cons (ps_set (i := 4) nd rfl (Or.inl rfl) (pe_meth (pv 0) KS.cl KS.mOw GO hr bO .nil (passC hC) (pa_cons (pv 2) pa_nil)))
      (pss_cons (ps_if (PW.pt (pw_or (pt_not (pt_val (pe_callB call_isinst rfl T.isinst PyProof.Rows.boot_isinstance (pa_cons (pv 4) (pa_cons (pe_bltn (v := .ty "list") rfl T.list PyProof.Rows.boot_list rfl) pa_nil)))))
            (pw_or1 (pt_cmpR (op_neD hr.units) (pv 4) (pv 3) (nomark _))))) (pss_one (ps_ret pe_bl)) pss_nil)
      (pss_cons (ps_expr (pe_bm PySem.F.plainAttrs_list PySem.F.slot_list_append PySem.F.type_list_append mt_append (pv 4) (pa_cons (pv 2) pa_nil)))
      (pss_one (ps_ret (pe_cmpR (op_eqD hr.units) (pe_meth (pv 0) KS.cl KS.mOw GO hr bO .nil (passC hC) (pa_cons (pv 2) pa_nil)) (pv 3) (nomark _))))))), ?_⟩
    have small : ∀ n : Nat, n ≤ 1000 → n ≤ sizeLine := fun n h => Nat.le_of_lt (small1000 h)
    obtain ⟨l', xs, e, _, hl1, hz1, hx⟩ := hl.list_inv
    cases e
    have rl : rs.length ≤ 50 := by
      have h1 := hzr.length_eq
      rw [List.length_map] at h1
      have h2 := hz.le
      omega
    have dl : (dueOf rs n).length ≤ 50 := by
      unfold dueOf
      rw [List.length_map]
      have := List.length_filter_le (fun r : Row => decide (r.owner = some n)) rs
      omega
    have okd : ∀ x ∈ dueOf rs n, nameOk x := fun x hx => by
      obtain ⟨r, hr, rfl⟩ := List.mem_map.mp hx
      exact okr r (List.mem_filter.mp hr).1
    have xl : xs.length = rs.length := by rw [hx.length, List.length_map]
    have ol : ord.length ≤ 50 := by
      have h1 := hop.length_eq
      rw [List.length_map] at h1
      have h2 := hz.le
      omega
    refine ⟨_, rfl, l, rfl, ⟨_, SqL.of hl1⟩, comp_list (xs := xs) (fun i ys H' => H = H' ∧ ys = (((rs.take i).filter fun r => decide (r.owner = some n)).map (·.name)).map V.str) ⟨rfl, rfl⟩ (fun i ys H' p => by rw [← p.1]; exact SqL.of hl1) (fun i ys H' hi p => ?_) ?_ ?_⟩
    · rw [p.2, List.length_map, List.length_map]
      have h1 := List.length_filter_le (fun r : Row => decide (r.owner = some n)) (rs.take i)
      have h2 : (rs.take i).length ≤ rs.length := by rw [List.length_take]; omega
      exact small _ (by omega)
    · rintro i x ys H' hi ⟨rfl, rfl⟩ N hN
      obtain ⟨dd, hdd, hv⟩ := hx.get hi
      rw [List.getElem?_map] at hdd
      cases er : rs[i]? with
      | none => rw [er] at hdd; cases hdd
      | some r =>
        rw [er] at hdd
        cases hdd
        obtain ⟨t, lf, rfl, ht, _⟩ := row_inv hv
        cases eo : r.owner with
        | none =>
          rw [eo] at ht
          refine ⟨_, rfl, t, _, 2, _, rfl, rfl, SqT.of ht, rfl, _, rfl, rfl, _, rfl, iteF (hN _ _ ⟨rfl, ?_⟩)⟩
          rw [filter_snocR _ er, if_neg (by simp [eo])]
        | some ow =>
          rw [eo] at ht
          refine ⟨_, rfl, t, _, 2, _, rfl, rfl, SqT.of ht, rfl, _, rfl, rfl, _, rfl, ?_⟩
          show if decide (V.str ow = V.str n) = true then _ else _
          by_cases c : ow = n
          · subst c
            rw [decide_eq_true rfl]
            refine iteT ⟨_, rfl, t, _, 0, _, rfl, rfl, SqT.of ht, rfl, hN _ _ ⟨rfl, ?_⟩⟩
            rw [filter_snocR _ er, if_pos (by simp [eo]), List.map_append, List.map_append]
            rfl
          · rw [decide_eq_false (show ¬ V.str ow = V.str n by intro z; injection z with z; exact c z)]
            refine iteF (hN _ _ ⟨rfl, ?_⟩)
            rw [filter_snocR _ er, if_neg (by simp [eo, c])]
    · rintro ys H' ⟨rfl, rfl⟩ lc hlc
      rw [xl, List.take_length, show ((rs.filter fun r => decide (r.owner = some n)).map (·.name)) = dueOf rs n from rfl]
      refine ⟨lc, dueOf rs n, rfl, SqL.of upd_same, by omega, fun lq ks hlq hp1 hs1 => ?_⟩
      have s1 : Same H (upd (upd H lc (.lst ((dueOf rs n).map V.str))) lq (.lst (ks.map V.str))) := (Same.new hlc).trans (Same.new hlq)
      have eq1 : (upd (upd H lc (.lst ((dueOf rs n).map V.str))) lq (.lst (ks.map V.str))) lq = some (.lst (ks.map V.str)) := upd_same
      generalize upd (upd H lc (.lst ((dueOf rs n).map V.str))) lq (.lst (ks.map V.str)) = H1 at s1 eq1 ⊢
      have ksl : ks.length ≤ 50 := by rw [hp1.length_eq]; exact dl
      have okk : ∀ x ∈ ks, nameOk x := fun x hx => okd x (hp1.mem_iff.mp hx)
      obtain ⟨⟨dx, hp⟩, rd⟩ := ka
      have nd1 : ∀ {b : Addr} {o : HO}, H1 b = some o → (∀ kvs, o ≠ .dK kvs) → (∀ x u, o ≠ .frz x u) → b ≠ d := fun {b o} e h1 h2 => by
        rintro rfl
        rcases rd_same s1 rd with z | ⟨x, z⟩ <;> rw [e] at z
        · exact h1 _ (Option.some.inj z)
        · exact h2 _ _ (Option.some.inj z)
      refine ⟨_, rfl, p, dx, _, rfl, s1 _ _ hp, ks_no _ (by decide +kernel), _, rfl, p, d, kvs, n, zs, ord, rfl, nn, ⟨⟨dx, s1 _ _ hp⟩, rd_same s1 rd⟩, hz.mono fun b o e _ => s1 _ _ e, hpl, hn, ol, fun q ks2 H2 fq hq2 rd2 fr2 ⟨ys, hys, own⟩ => ?_⟩
      have e2 : ks2 = ks := by
        obtain ⟨p2, s2⟩ := own_due hys hop hz.nd hzr own
        exact sorted_eq s2 hs1 (p2.trans hp1.symm)
      subst e2
      have eq2 := fr2 _ _ eq1 (nd1 eq1 (fun _ z => nomatch z) (fun _ _ z => nomatch z))
      have hp2 := fr2 _ _ (s1 _ _ hp) (nd1 (s1 _ _ hp) (fun _ z => nomatch z) (fun _ _ z => nomatch z))
      refine ⟨_, rfl, _, _, _, _, _, rfl, .lst hq2, rfl, rfl, _, rfl, iteF ?_⟩
      refine ⟨_, rfl, _, rfl, ne_same (G := Any) (G' := Any) (strs_data trivial hq2 (by omega) okk) (strs_data trivial eq2 (by omega) okk) (depth_list _) ⟨_, rfl, iteF ?_⟩⟩
      refine ⟨_, rfl, .inl ⟨rfl, _, SqL.of hq2⟩, _, rfl, q, _, _, rfl, rfl, hq2, by rw [List.length_map]; exact small1000 (by omega), ?_⟩
      have qd : d ≠ q := by
        rintro rfl
        rcases rd_same s1 rd with z | ⟨x, z⟩ <;> rw [fq] at z <;> cases z
      have rd3 : Rd (upd H2 q (.lst (ks2.map V.str ++ [.str n]))) d (.dK kvs) := by
        rcases rd2 with z | ⟨x, z⟩
        · exact .inl (by rw [upd_ne qd]; exact z)
        · exact .inr ⟨x, by rw [upd_ne qd]; exact z⟩
      have fr3 : ∀ b o, H1 b = some o → b ≠ d → (upd H2 q (.lst (ks2.map V.str ++ [.str n]))) b = some o := fun b o e nb => by
        rw [upd_ne (ne_of_none e fq)]
        exact fr2 b o e nb
      generalize upd H2 q (.lst (ks2.map V.str ++ [.str n])) = H3 at rd3 fr3 ⊢
      have hp3 := fr3 _ _ (s1 _ _ hp) (nd1 (s1 _ _ hp) (fun _ z => nomatch z) (fun _ _ z => nomatch z))
      refine ⟨_, rfl, p, dx, _, rfl, hp3, ks_no _ (by decide +kernel), _, rfl, p, d, kvs, n, zs, ord, rfl, nn, ⟨⟨dx, hp3⟩, rd3⟩, hz.mono fun b o e ⟨_, _, _, eo⟩ => fr3 _ _ (s1 _ _ e) (nd1 (s1 _ _ e) (by rw [eo]; exact fun _ z => nomatch z) (by rw [eo]; exact fun _ _ z => nomatch z)), hpl, hn, ol, fun q4 ks4 H4 fq4 hq4 rd4 fr4 ⟨ys4, hys4, own4⟩ => ?_⟩
      have e4 : ks4 = ks2 := by
        obtain ⟨p4, s4⟩ := own_due hys4 hop hz.nd hzr own4
        exact sorted_eq s4 hs1 (p4.trans hp1.symm)
      subst e4
      have eq3 := fr3 _ _ eq1 (nd1 eq1 (fun _ z => nomatch z) (fun _ _ z => nomatch z))
      have eq4 := fr4 _ _ eq3 (nd1 eq1 (fun _ z => nomatch z) (fun _ _ z => nomatch z))
      refine ⟨_, rfl, eq_same (G := Any) (G' := Any) (strs_data trivial hq4 (by omega) okk) (strs_data trivial eq4 (by omega) okk) (depth_list _) (k _ rd4 fun b o e nb => fr4 _ _ (fr3 _ _ (s1 _ _ e) nb) nb)⟩
end
end L2.W
-- MOD K7O
namespace L2.W
open PySem My
/-! ### what stays -/
theorem _root_.L2.TabOk.gen {H H' : Hp} {P : Addr} {pos : Pos} {q : Str} (T : TabOk H P pos q) (k : ∀ b o, H b = some o → b = P ∨ (∃ f, o = .ext f) → H' b = some o) : TabOk H' P pos q := by
  rcases T with z | ⟨c, z, y⟩
  · exact .inl (k _ _ z (.inl rfl))
  · exact .inr ⟨c, k _ _ z (.inl rfl), k _ _ y (.inr ⟨_, rfl⟩)⟩
theorem _root_.L2.TabM.gen {H H' : Hp} {P : Addr} {q : Str} (T : TabM H P q) (k : ∀ b o, H b = some o → b = P ∨ (∃ f, o = .ext f) → H' b = some o) : TabM H' P q := by
  obtain ⟨ps, z, t, c⟩ := T.ex
  exact ⟨ps, k _ _ z (.inl rfl), t, fun pos v e => let ⟨a, e1, e2⟩ := c pos v e; ⟨a, e1, k _ _ e2 (.inr ⟨_, rfl⟩)⟩⟩
theorem _root_.L2.TabM.tb {H : Hp} {P : Addr} {q : Str} (T : TabM H P q) : ∃ ps, H P = some (.tbl ps) := let ⟨ps, z, _⟩ := T.ex; ⟨ps, z⟩
noncomputable def strange (a1 a2 a3 a4 : Addr) : List V := [.str "", .str "Box", .str "abcdefghi", .str "a.0", .non, .int 7, .bl true, .ref a1, .ref a2, .ref a3, .ref a4, .int 0]
structure Keep7 (p ls a1 a2 a3 a4 Pt Pl : Addr) (ms : List Int) (H : Hp) : Prop where
  hp : H p = some (.lst (ms.map V.int))
  hs : H ls = some (.lst (strange a1 a2 a3 a4))
  h1 : H a1 = some (.lst [.str "a"])
  h2 : H a2 = some (.tup [.str "a"])
  h3 : H a3 = some (.dK [])
  h4 : H a4 = some (.lst [])
  hT : TabOk H Pt lamPos lamQ
  hM : TabM H Pl lawQ
section
variable {p ls a1 a2 a3 a4 Pt Pl x : Addr} {ms : List Int} {H H' : Hp} {u : HO}
theorem Keep7.but (k : Keep7 p ls a1 a2 a3 a4 Pt Pl ms H) (hx : H x = some u) (nt : ∀ ps, u ≠ .tbl ps) (nx : ∀ f, u ≠ .ext f) (na : ∀ b ∈ [p, ls, a1, a2, a3, a4], b ≠ x) (g : GrownBut x H H') : Keep7 p ls a1 a2 a3 a4 Pt Pl ms H' := by
  have kk : ∀ (P : Addr), x ≠ P → ∀ b o, H b = some o → b = P ∨ (∃ f, o = .ext f) → H' b = some o := fun P nP b o e h => g b o e (by
    rintro rfl
    rcases h with h | ⟨f, h⟩
    · exact nP h
    · rw [hx] at e; exact nx f ((Option.some.inj e).trans h))
  exact ⟨g _ _ k.hp (na _ (by simp)), g _ _ k.hs (na _ (by simp)), g _ _ k.h1 (na _ (by simp)), g _ _ k.h2 (na _ (by simp)), g _ _ k.h3 (na _ (by simp)), g _ _ k.h4 (na _ (by simp)), k.hT.gen (kk _ (k.hT.ne hx nt)), k.hM.gen (kk _ (k.hM.ne hx nt))⟩
theorem Keep7.same (k : Keep7 p ls a1 a2 a3 a4 Pt Pl ms H) (s : Same H H') : Keep7 p ls a1 a2 a3 a4 Pt Pl ms H' :=
  ⟨s _ _ k.hp, s _ _ k.hs, s _ _ k.h1, s _ _ k.h2, s _ _ k.h3, s _ _ k.h4, k.hT.same s, k.hM.same s⟩
theorem TabOk.tb {H : Hp} {P : Addr} {pos : Pos} {q : Str} (T : TabOk H P pos q) : ∃ ps, H P = some (.tbl ps) := by
  rcases T with z | ⟨c, z, _⟩
  · exact ⟨_, z⟩
  · exact ⟨_, z⟩
theorem Keep7.tab (k : Keep7 p ls a1 a2 a3 a4 Pt Pl ms H) (ne : Pl ≠ Pt) (g : GrownBut Pt H H') (T : TabOk H' Pt lamPos lamQ) : Keep7 p ls a1 a2 a3 a4 Pt Pl ms H' :=
  ⟨g _ _ k.hp (k.hT.ne k.hp fun _ z => nomatch z), g _ _ k.hs (k.hT.ne k.hs fun _ z => nomatch z), g _ _ k.h1 (k.hT.ne k.h1 fun _ z => nomatch z), g _ _ k.h2 (k.hT.ne k.h2 fun _ z => nomatch z), g _ _ k.h3 (k.hT.ne k.h3 fun _ z => nomatch z), g _ _ k.h4 (k.hT.ne k.h4 fun _ z => nomatch z), T, k.hM.but ne (TabOk.tb k.hT) g⟩
theorem Keep7.lam (k : Keep7 p ls a1 a2 a3 a4 Pt Pl ms H) (ne : Pl ≠ Pt) (g : GrownBut Pl H H') (M : TabM H' Pl lawQ) : Keep7 p ls a1 a2 a3 a4 Pt Pl ms H' := by
  obtain ⟨pl, el⟩ := k.hM.tb
  exact ⟨g _ _ k.hp (k.hM.ne k.hp fun _ z => nomatch z), g _ _ k.hs (k.hM.ne k.hs fun _ z => nomatch z), g _ _ k.h1 (k.hM.ne k.h1 fun _ z => nomatch z), g _ _ k.h2 (k.hM.ne k.h2 fun _ z => nomatch z), g _ _ k.h3 (k.hM.ne k.h3 fun _ z => nomatch z), g _ _ k.h4 (k.hM.ne k.h4 fun _ z => nomatch z),
    k.hT.gen fun b o e h => g b o e (by
      rintro rfl
      rcases h with h | ⟨f, h⟩
      · exact ne h
      · rw [el] at e; cases e; cases h), M⟩
end
structure In7 (CK C q l r kq d : Addr) (rs rt : List Row) (kvs : List (Key × V)) (zs : List (Addr × Row)) (H : Hp) : Prop where
  hq : ∃ xs, H q = some (.lst xs)
  hl : Has (fun a => a ≠ q) H (.ref l) (.list (rs.map rowD))
  hr : Has (fun a => a ≠ q) H (.ref r) (.list (rt.map rowD))
  ka : KindsAt CK H kq d kvs
  hk : ∀ y ∈ zs, KF C (fun a => a ≠ q) H y.1 y.2
section
variable {CK C q l r kq d Pl : Addr} {rs rt : List Row} {kvs : List (Key × V)} {zs : List (Addr × Row)} {H H' : Hp}
theorem In7.stepQ (k : In7 CK C q l r kq d rs rt kvs zs H) (g : GrownBut q H H') (hq : ∃ xs, H' q = some (.lst xs)) : In7 CK C q l r kq d rs rt kvs zs H' := by
  obtain ⟨xs, eq⟩ := k.hq
  have fh : ∀ {v : V} {d : PyData}, Has (fun a => a ≠ q) H v d → Has (fun a => a ≠ q) H' v d := fun h => h.frame fun a o ga e => ⟨ga, g a o e ga⟩
  refine ⟨hq, fh k.hl, fh k.hr, k.ka.mono fun b o e hs => g b o e ?_, fun y hy => (k.hk y hy).frame (fun b o e ⟨_, _, _, eo⟩ => g b o e ?_) fun b o ga _ e => ⟨ga, g b o e ga⟩⟩
  · rintro rfl
    rw [eq] at e
    cases e
    rcases hs with ⟨_, _, _, z⟩ | ⟨_, z⟩ | ⟨_, _, z⟩ <;> cases z
  · rintro rfl
    rw [eq] at e
    cases e
    cases eo
theorem In7.same (k : In7 CK C q l r kq d rs rt kvs zs H) (s : Same H H') : In7 CK C q l r kq d rs rt kvs zs H' := k.stepQ (.same s) (let ⟨xs, e⟩ := k.hq; ⟨xs, s _ _ e⟩)
theorem rd_seq {H : Hp} {d b : Addr} {kvs : List (Key × V)} {o : HO} (r : Rd H d (.dK kvs)) (e : H b = some o) (h1 : ∀ kvs, o ≠ .dK kvs) (h2 : ∀ x u, o ≠ .frz x u) : b ≠ d := by
  rintro rfl
  rcases r with z | ⟨x, z⟩ <;> rw [e] at z
  · exact h1 _ (Option.some.inj z)
  · exact h2 _ _ (Option.some.inj z)
theorem In7.stepD (k : In7 CK C q l r kq d rs rt kvs zs H) (g : GrownBut d H H') (rd : Rd H' d (.dK kvs)) : In7 CK C q l r kq d rs rt kvs zs H' := by
  obtain ⟨xs, eq⟩ := k.hq
  obtain ⟨⟨dx, e1⟩, r0⟩ := k.ka
  have sq : ∀ {b : Addr} {o : HO}, isSeq o → H b = some o → b ≠ d := fun {b o} hs e => rd_seq r0 e (by rintro _ rfl; exact hs) (by rintro _ _ rfl; exact hs)
  have fh : ∀ {v : V} {d : PyData}, Has (fun a => a ≠ q) H v d → Has (fun a => a ≠ q) H' v d := fun h => h.frameS fun a o ga hs e => ⟨ga, g a o e (sq hs e)⟩
  exact ⟨⟨xs, g _ _ eq (sq (o := .lst xs) trivial eq)⟩, fh k.hl, fh k.hr, ⟨⟨dx, g _ _ e1 (rd_seq r0 e1 (fun _ z => nomatch z) fun _ _ z => nomatch z)⟩, rd⟩, fun y hy => (k.hk y hy).frame (fun b o e ⟨_, _, _, eo⟩ => g b o e (rd_seq r0 e (by rw [eo]; exact fun _ z => nomatch z) (by rw [eo]; exact fun _ _ z => nomatch z))) fun b o ga hs e => ⟨ga, g b o e (sq hs e)⟩⟩
theorem In7.lam (k : In7 CK C q l r kq d rs rt kvs zs H) (M : TabM H Pl lawQ) (g : GrownBut Pl H H') : In7 CK C q l r kq d rs rt kvs zs H' := by
  obtain ⟨xs, eq⟩ := k.hq
  have sq : ∀ {b : Addr} {o : HO}, isSeq o → H b = some o → b ≠ Pl := fun {b o} hs e => M.ne e (by rintro _ rfl; exact hs)
  have fh : ∀ {v : V} {d : PyData}, Has (fun a => a ≠ q) H v d → Has (fun a => a ≠ q) H' v d := fun h => h.frameS fun a o ga hs e => ⟨ga, g a o e (sq hs e)⟩
  refine ⟨⟨xs, g _ _ eq (sq (o := .lst xs) trivial eq)⟩, fh k.hl, fh k.hr, k.ka.mono fun b o e hs => g b o e (M.ne e ?_), fun y hy => (k.hk y hy).frame (fun b o e ⟨_, _, _, eo⟩ => g b o e (M.ne e (by rw [eo]; exact fun _ z => nomatch z))) fun b o ga hs e => ⟨ga, g b o e (sq hs e)⟩⟩
  rcases hs with ⟨_, _, _, z⟩ | ⟨_, z⟩ | ⟨_, _, z⟩ <;> rw [z] <;> exact fun _ z => nomatch z
theorem In7.zz (k : In7 CK C q l r kq d rs rt kvs zs H) (nd : (zs.map fun q => q.2.name).Nodup) (le : zs.length ≤ 50) : Zs C H zs := ⟨fun y hy => (k.hk y hy).o, nd, le⟩
end
/-! ### the thing that is asked -/
noncomputable def Thing (H : Hp) (v : V) : Prop := (∃ n : Str, v = .str n ∧ n.length ≤ 1000) ∨ v = .non ∨ (∃ i, v = .int i) ∨ (∃ b, v = .bl b) ∨ ∃ a, v = .ref a ∧ OddAt H a
theorem Thing.keep {H H' : Hp} {v : V} (h : Thing H v) (k : ∀ b o, v = .ref b → H b = some o → (∃ xs, o = .lst xs) ∨ (∃ xs, o = .tup xs) ∨ (∃ kvs, o = .dK kvs) → H' b = some o) : Thing H' v := by
  rcases h with h | h | h | h | ⟨a, rfl, h⟩
  · exact .inl h
  · exact .inr (.inl h)
  · exact .inr (.inr (.inl h))
  · exact .inr (.inr (.inr (.inl h)))
  · refine .inr (.inr (.inr (.inr ⟨a, rfl, ?_⟩)))
    rcases h with ⟨xs, h⟩ | ⟨xs, h⟩ | ⟨kvs, h⟩
    · exact .inl ⟨xs, k _ _ rfl h (.inl ⟨_, rfl⟩)⟩
    · exact .inr (.inl ⟨xs, k _ _ rfl h (.inr (.inl ⟨_, rfl⟩))⟩)
    · exact .inr (.inr ⟨kvs, k _ _ rfl h (.inr (.inr ⟨_, rfl⟩))⟩)
theorem strange_thing {p ls a1 a2 a3 a4 Pt Pl : Addr} {ms : List Int} {H : Hp} (k : Keep7 p ls a1 a2 a3 a4 Pt Pl ms H) : ∀ v ∈ strange a1 a2 a3 a4, Thing H v := by
  intro v hv
  simp only [strange, List.mem_cons, List.not_mem_nil, or_false] at hv
  have st : ∀ n : Str, n.length ≤ 1000 → Thing H (.str n) := fun n h => .inl ⟨n, rfl, h⟩
  rcases hv with rfl | rfl | rfl | rfl | rfl | rfl | rfl | rfl | rfl | rfl | rfl | rfl
  · exact st _ (by decide +kernel)
  · exact st _ (by decide +kernel)
  · exact st _ (by decide +kernel)
  · exact st _ (by decide +kernel)
  · exact .inr (.inl rfl)
  · exact .inr (.inr (.inl ⟨_, rfl⟩))
  · exact .inr (.inr (.inr (.inl ⟨_, rfl⟩)))
  · exact .inr (.inr (.inr (.inr ⟨_, rfl, .inl ⟨_, k.h1⟩⟩)))
  · exact .inr (.inr (.inr (.inr ⟨_, rfl, .inr (.inl ⟨_, k.h2⟩)⟩)))
  · exact .inr (.inr (.inr (.inr ⟨_, rfl, .inr (.inr ⟨_, k.h3⟩)⟩)))
  · exact .inr (.inr (.inr (.inr ⟨_, rfl, .inl ⟨_, k.h4⟩⟩)))
  · exact .inr (.inr (.inl ⟨_, rfl⟩))
theorem Thing.no {K : PySem.W.Frag} {H : Hp} {v : V} {zs : List (Addr × Row)} {ord : List Str} {kvs : List (Key × V)} (h : Thing H v) (hpl : Placed zs ord kvs) (hn : ∀ n : Str, v = .str n → n ∉ ord) : NoNm K H kvs v := by
  rcases h with ⟨n, rfl, l⟩ | rfl | ⟨i, rfl⟩ | ⟨b, rfl⟩ | ⟨a, rfl, h⟩
  · cases e : nameB n with
    | false => exact .st l e
    | true =>
      refine .out l e ?_
      have := hpl.val n
      rw [decide_eq_false (hn n rfl)] at this
      cases z : valV kvs (Sum.inr n) with
      | none => rfl
      | some u => rw [z] at this; cases this
  · exact .ty .non rfl
  · exact .ty (.int i) rfl
  · exact .ty (.bl b) rfl
  · rcases h with ⟨xs, h⟩ | ⟨xs, h⟩ | ⟨kvs', h⟩
    · exact .ty (.lst h) rfl
    · exact .ty (.tup h) rfl
    · exact .ty (.dK h) rfl
theorem in_strs {n : Str} : ∀ ks : List Str, inV (.str n) (ks.map V.str) = decide (n ∈ ks)
  | [] => by simp [inV]
  | k :: r => by
    have := in_strs (n := n) r
    unfold inV at this ⊢
    rw [List.map_cons, List.any_cons, this]
    by_cases c : k = n
    · subst c
      simp [eqV]
    · have h1 : eqV (.str k) (.str n) = false := by
        unfold eqV
        simp [c]
      rw [h1]
      simp [Ne.symm c]
theorem in_other {v : V} (f : flatV v = true) (h : ∀ n, v ≠ .str n) : ∀ ks : List Str, inV v (ks.map V.str) = false
  | [] => rfl
  | k :: r => by
    have := in_other f h r
    unfold inV at this ⊢
    rw [List.map_cons, List.any_cons, this, Bool.or_false]
    cases v with
    | str n => exact absurd rfl (h n)
    | non => rfl
    | bl b => rfl
    | int i => rfl
    | _ => exact absurd (show false = true from f) Bool.false_ne_true
theorem flats (ks : List Str) : (ks.map V.str).all flatV = true := by
  rw [List.all_eq_true]
  intro x hx
  obtain ⟨k, _, rfl⟩ := List.mem_map.mp hx
  rfl
theorem _root_.List.lookup_mem {α β : Type} [BEq α] [LawfulBEq α] {x : α} {v : β} : ∀ {l : List (α × β)}, l.lookup x = some v → x ∈ l.map (·.1)
  | [], h => by cases h
  | (y, u) :: l, h => by
    rw [List.lookup_cons] at h
    cases e : x == y with
    | true => rw [eq_of_beq e]; simp
    | false =>
      rw [e] at h
      exact List.mem_cons_of_mem _ (List.lookup_mem h)
end L2.W
-- MOD K7P
namespace L2.W
open PySem My
/-! ### the law -/
noncomputable def spLaw7 (K : PySem.W.Frag) (Pt Pl : Addr) : Sp := fun vs H Q _ => ∃ (a : Addr) (ns : List Int), vs = [.ref a] ∧ SqL K H a (ns.map V.int) ∧ ns.length ≤ 63 ∧ TabOk H Pt lamPos lamQ ∧ TabM H Pl lawQ ∧ Pl ≠ Pt ∧ ∀ H', Q (.bl true) H'
structure All7 (K : PySem.W.Frag) (mg : Str → Option Value) (base : Heap) (fN fU fP fF fC fI C fA fp c Pt CK fIk fOr fOf fOw fm fd fn fg fa fl fS fT fM fW fR cL Pl C1 CR CN C2 C3 : Addr) (dN dU dP dF dC dI dA dp dIk dOf dOw dm dd dn dg da dl dS dT dM dW dR : FuncData) (dV : Value) : Prop where
  T : Tops K mg
  N : Def K mg "is_name" sIsName ["thing"] fN dN
  U : Def K mg "are_unlike_names" sUnlike ["things"] fU dU
  P : Def K mg "is_pair_with_values" sPair ["thing"] fP dP
  F : Def K mg "are_fields" sFields ["things"] fF dF
  Ct : Def K mg "count_states" sCount ["fields"] fC dC
  I : FunD K "__init__" "Kind.__init__" sInit dV fI dI
  KC : KCls K mg C fI
  KI : KIsi K C
  bK : Binds K dI ["self", "name", "fields", "owner"] []
  A : Def K mg "are_kinds" sAreKinds ["things"] fA dA
  p : FunL K "placed_by_owners" "placed_by_owners" sPlaced fp dp c
  pa : mg "placed_by_owners" = some (.ref fp)
  pb : Binds K dp ["kinds"] []
  LT : LamTxt K mg base c Pt
  Ik : Fun K "__init__" "Kinds.__init__" sInitKs fIk dIk
  bIk : Binds K dIk ["self", "kinds"] []
  Of : Fun K "of" "Kinds.of" sOf fOf dOf
  bOf : Binds K dOf ["self", "name"] []
  Ow : Fun K "owned" "Kinds.owned" sOwned fOw dOw
  bOw : Binds K dOw ["self", "name"] []
  KS : KsCls K mg CK fIk fOr fOf fOw
  m : Def K mg "_law_mixed" sMixed ["_law_cell", "_law_k"] fm dm
  d : Def K mg "_law_digits" sDigits ["_law_cell"] fd dd
  n : Def K mg "_law_next" sNext ["_law_source", "_law_many"] fn dn
  g : Def K mg "_law_sign" sSign ["_law_sign_here", "_law_turn"] fg dg
  a : Def K mg "_law_names" sNames ["_law_source", "_law_many"] fa da
  l : Def K mg "_law_fields" sLFields ["_law_source"] fl dl
  S : Def K mg "_law_specs" sSpecs ["_law_source"] fS dS
  Tu : Def K mg "_law_turned" sTurned ["_law_source", "_law_things"] fT dT
  M : Def K mg "_law_made" sMade ["_law_specs_here"] fM dM
  W : Def K mg "_law_word" sWord ["_law_asked"] fW dW
  R : Def K mg "_law_right" sRight ["_law_kinds", "_law_specs_here", "_law_name"] fR dR
  LL : LamTxt K mg base cL Pl
  rf : Refs K mg C1 CR CN C2 C3
section
variable {P : Program} {w : World} {K : PySem.W.Frag} {mg : Str → Option Value} {base : Heap}
noncomputable abbrev nL7 : List Str := ["_law_script", "_law_strange", "_law_cell", "_law_source", "_law_specs_here", "_law_kinds", "_law_name", "_law_fields_here", "_law_owner", "_law_kind", "_law_thing"]
theorem scL7 : FnScope nL7 ["_law_script"] (defScope sLaw) := ⟨rfl, rfl, rfl, by decide +kernel, rfl, by decide +kernel, by decide +kernel⟩
theorem cellL : ∀ z ∈ lamN, (defScope sLaw).names.lookup z = some .cell := by decide +kernel
theorem free1 : ∀ z, (lamS lam1).names.lookup z = some .free → z ∈ lamN := fun z h => List.lookup_mem h
theorem free2 : ∀ z, (lamS lam2).names.lookup z = some .free → z ∈ lamN := fun z h => List.lookup_mem h
noncomputable def rows1 : List Row := [⟨"a", [], none⟩]
theorem nma : nameOk "a" := by refine ⟨?_, ?_, ?_⟩ <;> decide +kernel
theorem ok1 : RowsOk rows1 := by
  have ok0 : FieldsOk [] := ⟨by decide, List.nodup_nil, fun f h => by simp at h, by decide⟩
  refine ⟨by decide, by decide, by decide +kernel, fun r hr => ?_, fun i r o e eo => ?_⟩
  · rw [List.mem_singleton.mp hr]
    exact ⟨nma, ok0⟩
  · match i, e with
    | 0, e => cases e; cases eo
    | _ + 1, e => simp [rows1] at e
theorem row0 {H : Hp} {l t : Addr} {n : Str} {o : Option Str} (hl : H l = none) (ht : (upd H l (.lst [])) t = none) (hn : nameOk n) (ho : ∀ x, o = some x → nameOk x) :
    Same H (upd (upd H l (.lst [])) t (.tup [.str n, .ref l, ownV o])) ∧ Has Any (upd (upd H l (.lst [])) t (.tup [.str n, .ref l, ownV o])) (.ref t) (rowD ⟨n, [], o⟩) := by
  refine ⟨(Same.new hl).trans (Same.new ht), .tup trivial upd_same (by show 3 ≤ 1000; decide) (.cons (.str n (Nat.le_trans hn.2.2 (by decide)) hn.2.1) (.cons (.lst trivial ((Same.new ht) _ _ upd_same) (by show 0 ≤ 1000; decide) .nil) (.cons (own_has ho) .nil)))⟩
theorem scal_own (o : Option Str) : scal (ownV o) (ownV o) = true := by cases o <;> rfl
theorem k_gen {R F : Hp → Prop} {B : Prop} (t : ∀ Hx, F Hx → R Hx) (h : (∀ Hx, F Hx → R Hx) → B) : B := h t
set_option maxHeartbeats 4000000 in
theorem ok_law7 {f fN fU fP fF fC fI C fA fp c Pt CK fIk fOr fOf fOw fm fd fn fg fa fl fS fT fM fW fR cL Pl C1 CR CN C2 C3 : Addr} {fdl dN dU dP dF dC dI dA dp dIk dOf dOw dm dd dn dg da dl dS dT dM dW dR : FuncData} {dV : Value} (F : FunL K "law" "law" sLaw f fdl cL)
    (A : All7 K mg base fN fU fP fF fC fI C fA fp c Pt CK fIk fOr fOf fOw fm fd fn fg fa fl fS fT fM fW fR cL Pl C1 CR CN C2 C3 dN dU dP dF dC dI dA dp dIk dOf dOw dm dd dn dg da dl dS dT dM dW dR dV) :
    FnOk P w K mg base (CXM P w) 8 f fdl ["_law_script"] (spLaw7 K Pt Pl) := by
  have T := A.T
  have hC : Calm (CXM P w) := calmM
  have GD : FnOk P w K mg base (CXM P w) 1 fd dd ["_law_cell"] spDigits := ok_digits A.d.fn
  have GN : FnOk P w K mg base (CXM P w) 2 fn dn ["_law_source", "_law_many"] spNext := ok_next hC A.n.fn A.m
  have GS : FnOk P w K mg base (CXM P w) 5 fS dS ["_law_source"] spSpecs := ok_specs hC T A.S.fn A.m A.n A.g A.a A.l
  have GT : FnOk P w K mg base (CXM P w) 3 fT dT ["_law_source", "_law_things"] (spTurned K) := ok_turned hC T A.Tu.fn A.m A.n
  have GK : FnOk P w K mg base (CXM P w) 5 fI dI ["self", "name", "fields", "owner"] (spInit C) := ok_init hC T A.I A.KC A.N A.U A.P A.F A.Ct
  have GI : FnOk P w K mg base (CXM P w) 5 fIk dIk ["self", "kinds"] (spInitKs CK C Pt) := ok_initKs hC T A.KC A.KI A.KS A.LT A.Ik A.N A.U A.A A.p A.pa A.pb
  have GM : FnOk P w K mg base (CXM P w) 7 fM dM ["_law_specs_here"] (spMade CK C Pt) := ok_made hC T A.KC A.KS GK A.bK GI A.bIk A.M.fn
  have GOf : FnOk P w K mg base (CXM P w) 2 fOf dOf ["self", "name"] (spOf CK) := ok_of hC T A.KS A.Of A.N
  have GOw : FnOk P w K mg base (CXM P w) 3 fOw dOw ["self", "name"] (spOwned CK C) := ok_owned hC T A.KC A.KS A.Ow A.Of A.bOf A.N
  have GR : FnOk P w K mg base (CXM P w) 4 fR dR ["_law_kinds", "_law_specs_here", "_law_name"] (spRight CK C) := ok_right hC T A.KS A.R.fn GOw A.bOw
  have NOf : FnOk P w K mg base (CXM P w) 2 fOf dOf ["self", "name"] (spOfNo K CK C1) := ok_ofNo T A.rf.no A.KS A.Of A.N
  have NOw : FnOk P w K mg base (CXM P w) 3 fOw dOw ["self", "name"] (spOfNo K CK C1) := ok_ownedNo A.KS A.Ow NOf A.bOf
  have GW1 : ∀ f c' cl ws, FnOkS (LamAt f c' lawQ (lamP lam1) (lamB lam1) (lamS lam1) cl lamN ws) P w K mg base (CXM P w) 5 fW dW ["_law_asked"] (spWordL C1 lawQ (fun ws H Q E => spOfNo K CK C1 ws H Q E) f c' cl ws) := fun f c' cl ws => ok_word T A.rf A.W.fn ((ok_lam1 A.KS NOf A.bOf).mono (by decide))
  have GW2 : ∀ f c' cl ws, FnOkS (LamAt f c' lawQ (lamP lam2) (lamB lam2) (lamS lam2) cl lamN ws) P w K mg base (CXM P w) 5 fW dW ["_law_asked"] (spWordL C1 lawQ (fun ws H Q E => spOfNo K CK C1 ws H Q E) f c' cl ws) := fun f c' cl ws => ok_word T A.rf A.W.fn (ok_lam2 A.KS NOw A.bOw)
  refine FunL.okC F scL7 (fun vs H Q E h => ?_) (fun Ar outer s H vs Q E hr h => ?_)
  · obtain ⟨a, ns, rfl, _⟩ := h
    rfl
  · obtain ⟨a, ns, rfl, hS, hlen, hT, hM, hne, k⟩ := h
    have hr1 := hr.mono (show 1 ≤ 7 by decide)
    have hr2 := hr.mono (show 2 ≤ 7 by decide)
    have hr3 := hr.mono (show 3 ≤ 7 by decide)
    have hr4 := hr.mono (show 4 ≤ 7 by decide)
    have hr5 := hr.mono (show 5 ≤ 7 by decide)
    have hu := hu_of hr
    have nd := scL7.nd
    refine ⟨_, pss_cons (ps_set (i := 1) nd rfl (Or.inl rfl) (pe_lst (pa_cons pe_str (pa_cons pe_str (pa_cons pe_str (pa_cons pe_str (pa_cons pe_non (pa_cons pe_int (pa_cons pe_bl (pa_cons (pe_lst (pa_cons pe_str pa_nil)) (pa_cons (pe_tup (pa_cons pe_str pa_nil)) (pa_cons pe_dnewK (pa_cons (pe_lst pa_nil) (pa_cons pe_int pa_nil))))))))))))))
      (pss_cons (ps_for PassesOwn.never rfl (pi_list (pe_slice sl_list (pv 0) po_none (po_some pe_int))) (pg_name (i := 2) nd rfl (Or.inl rfl))
        (pss_cons (ps_set (i := 3) nd rfl (Or.inl rfl) (pe_call GD hr1 rfl A.d.at_ A.d.fn.kp A.d.bind .nil (passC hC) (pa_cons (pv 2) pa_nil)))
        (pss_cons (ps_set (i := 4) nd rfl (Or.inl rfl) (pe_call GS hr5 rfl A.S.at_ A.S.fn.kp A.S.bind .nil (passC hC) (pa_cons (pv 3) pa_nil)))
        (pss_cons (ps_set (i := 5) nd rfl (Or.inr rfl) (pe_call GM hr rfl A.M.at_ A.M.fn.kp A.M.bind .nil (passC hC) (pa_cons (pe_call GT hr3 rfl A.Tu.at_ A.Tu.fn.kp A.Tu.bind .nil (passC hC) (pa_cons (pv 3) (pa_cons (pv 4) pa_nil))) pa_nil)))
        (pss_cons (ps_for PassesOwn.never rfl (pi_list (pe_call GT hr3 rfl A.Tu.at_ A.Tu.fn.kp A.Tu.bind .nil (passC hC) (pa_cons (pv 3) (pa_cons (pv 4) pa_nil)))) (pg_tup rfl (pgs_cons (pg_name (i := 6) nd rfl (Or.inl rfl)) (pgs_cons (pg_name (i := 7) nd rfl (Or.inl rfl)) (pgs_cons (pg_name (i := 8) nd rfl (Or.inl rfl)) pgs_nil))))
          (pss_cons (ps_if (PW.pt (pw_and (pt_cmpR op_eq (pe_call GN hr2 rfl A.n.at_ A.n.fn.kp A.n.bind .nil (passC hC) (pa_cons (pv 3) (pa_cons pe_int pa_nil))) pe_int (nomark _)) (pw_and1 (pt_not (pt_val (pe_call GR hr4 rfl A.R.at_ A.R.fn.kp A.R.bind .nil (passC hC) (pa_cons (pv 5) (pa_cons (pv 4) (pa_cons (pv 6) pa_nil))))))))) (pss_one (ps_ret pe_bl)) pss_nil)
          (pss_cons (ps_set (i := 9) nd rfl (Or.inl rfl) (pe_meth (pv 5) A.KS.cl A.KS.mOf GOf hr2 A.bOf .nil (passC hC) (pa_cons (pv 6) pa_nil)))
          (pss_cons (ps_if (PW.pt (pw_or (pt_not (pt_val (pe_callB call_isinst rfl T.isinst PyProof.Rows.boot_isinstance (pa_cons (pv 9) (pa_cons (pe_glob (v := .ref C) rfl A.KC.mgC rfl) pa_nil)))))
            (pw_or (pt_cmpR op_ne (pe_fld (pv 9) rfl) (pv 6) (nomark _)) (pw_or (pt_cmpR (op_neD hr.units) (pe_fld (pv 9) rfl) (pv 7) (nomark _)) (pw_or1 (pt_cmpR op_ne (pe_fld (pv 9) rfl) (pv 8) (nomark _))))))) (pss_one (ps_ret pe_bl)) pss_nil)
          (pss_one (ps_if (pt_not (pt_val (pe_call GR hr4 rfl A.R.at_ A.R.fn.kp A.R.bind .nil (passC hC) (pa_cons (pv 5) (pa_cons (pv 4) (pa_cons (pv 6) pa_nil)))))) (pss_one (ps_ret pe_bl)) pss_nil))))))
        (pss_cons (ps_set (i := 10) nd rfl (Or.inr rfl) (pe_ix ix_list (pe_op op_cat (pv 1) (pe_lst (pa_cons (pe_op op_add_str (pe_ix ix_tup (pe_ix ix_list (pv 4) pe_int (fun _ _ => rfl)) pe_int (fun _ _ => rfl)) pe_str) (pa_cons pe_str (pa_cons (pe_op op_add_str (pe_ix ix_tup (pe_ix ix_list (pv 4) (pe_un un_neg pe_int) (fun _ _ => rfl)) pe_int (fun _ _ => rfl)) pe_str) pa_nil)))))
          (pe_call GN hr2 rfl A.n.at_ A.n.fn.kp A.n.bind .nil (passC hC) (pa_cons (pv 3) (pa_cons pe_int pa_nil))) (fun _ _ => rfl)))
        (pss_one (ps_if (pt_cmpR (op_notIn_seq.or (op_notIn_odd hu)) (pv 10) (pe_comp (T := ["_law_spec"]) rfl ScOk.auto (pi_list (pv 4)) (fun _ _ _ _ => pg_name (i := 11) (by decide +kernel : ((nL7 : List Str) ++ (["_law_spec"] : List Str)).Nodup) rfl (Or.inl rfl)) (fun _ _ _ _ => pf_nil) (fun _ _ _ _ => pe_ix (ix_tupK (K := K) rfl) (pv 11) pe_int (fun _ _ => rfl))) rfl)
          (pss_cons (ps_if (pt_cmpR op_ne (pe_lam (ix := [5, 10]) GW1 hr5 rfl A.W.at_ A.W.fn.kp A.W.bind (passC hC) A.LL rfl rfl rfl rfl rfl cellL free1) pe_str (nomark _)) (pss_one (ps_ret pe_bl)) pss_nil)
          (pss_one (ps_if (pt_cmpR op_ne (pe_lam (ix := [5, 10]) GW2 hr5 rfl A.W.at_ A.W.fn.kp A.W.bind (passC hC) A.LL rfl rfl rfl rfl rfl cellL free2) pe_str (nomark _)) (pss_one (ps_ret pe_bl)) pss_nil))) pss_nil))))))))
      (pss_one (ps_ret (pe_cmpR (op_eqD hr.units) (pe_meth (pe_call GM hr rfl A.M.at_ A.M.fn.kp A.M.bind .nil (passC hC) (pa_cons (pe_lst (pa_cons (pe_tup (pa_cons pe_str (pa_cons (pe_lst pa_nil) (pa_cons pe_non pa_nil)))) pa_nil)) pa_nil)) A.KS.cl A.KS.mOw GOw hr3 A.bOw .nil (passC hC) (pa_cons pe_str pa_nil))
        (pe_lst pa_nil) (nomark _))))), ?_⟩
    have small : ∀ n : Nat, n ≤ 1000 → n ≤ sizeLine := fun n h => Nat.le_of_lt (small1000 h)
    have one : (1 : Nat) ≤ sizeLine := small 1 (by decide)
    refine ⟨one, fun b1 h1 => ⟨one, fun b2 h2 b3 h3 => ⟨Nat.zero_le _, fun b4 h4 => ⟨by show 12 ≤ sizeLine; exact small 12 (by decide), fun ls hls => ?_⟩⟩⟩⟩
    have s1 : Same H (upd H b1 (.lst [.str "a"])) := Same.new h1
    have e1 : (upd H b1 (.lst [.str "a"])) b1 = some (.lst [.str "a"]) := upd_same
    have s2 := Same.new (o := .tup [.str "a"]) h2
    have e2 : (upd (upd H b1 (.lst [.str "a"])) b2 (.tup [.str "a"])) b2 = some (.tup [.str "a"]) := upd_same
    have s3 := Same.new (o := .dK []) h3
    have e3 : (upd (upd (upd H b1 (.lst [.str "a"])) b2 (.tup [.str "a"])) b3 (.dK [])) b3 = some (.dK []) := upd_same
    have s4 := Same.new (o := .lst []) h4
    have e4 : (upd (upd (upd (upd H b1 (.lst [.str "a"])) b2 (.tup [.str "a"])) b3 (.dK [])) b4 (.lst [])) b4 = some (.lst []) := upd_same
    have s5 := Same.new (o := .lst (strange b1 b2 b3 b4)) hls
    have sA := ((s1.trans s2).trans (s3.trans s4)).trans s5
    have ks : ∀ (p : Addr) (ms : List Int) (H' : Hp), Same (upd (upd (upd (upd (upd H b1 (.lst [.str "a"])) b2 (.tup [.str "a"])) b3 (.dK [])) b4 (.lst [])) ls (.lst (strange b1 b2 b3 b4))) H' → H' p = some (.lst (ms.map V.int)) → Keep7 p ls b1 b2 b3 b4 Pt Pl ms H' := fun p ms H' s e =>
      ⟨e, s _ _ upd_same, s _ _ (s5 _ _ (s4 _ _ (s3 _ _ (s2 _ _ e1)))), s _ _ (s5 _ _ (s4 _ _ (s3 _ _ e2))), s _ _ (s5 _ _ (s4 _ _ e3)), s _ _ (s5 _ _ e4), hT.same (sA.trans s), hM.same (sA.trans s)⟩
    have hS5 : SqL K (upd (upd (upd (upd (upd H b1 (.lst [.str "a"])) b2 (.tup [.str "a"])) b3 (.dK [])) b4 (.lst [])) ls (.lst (strange b1 b2 b3 b4))) a (ns.map V.int) := sql_keep hS fun o e => sA _ _ e
    show ∃ _, _
    rw [show ([.str "", .str "Box", .str "abcdefghi", .str "a.0", .non, .int 7, .bl true, .ref b1, .ref b2, .ref b3, .ref b4, .int 0] : List V) = strange b1 b2 b3 b4 from rfl]
    generalize upd (upd (upd (upd (upd H b1 (.lst [.str "a"])) b2 (.tup [.str "a"])) b3 (.dK [])) b4 (.lst [])) ls (.lst (strange b1 b2 b3 b4)) = H5 at ks hS5 ⊢
    clear s1 e1 s2 e2 s3 e3 s4 e4 s5 sA hls h4 h3 h2 h1
    obtain ⟨ms, ems, hms⟩ := cut_ints ns none (some 30)
    refine ⟨_, rfl, _, rfl, a, _, rfl, hS5, fun p hp => ?_⟩
    rw [ems]
    refine ⟨p, rfl, ⟨_, SqL.of upd_same⟩, for_list (K := K) (a := p) (xs := ms.map V.int) (fun i σ H2 => ∃ u2 u3 u4 u5 u6 u7 u8 u9 v1 : Option V, σ = [some (.ref a), some (.ref ls), u2, u3, u4, u5, u6, u7, u8, u9, v1] ∧ Keep7 p ls b1 b2 b3 b4 Pt Pl ms H2)
      ⟨none, none, none, none, none, none, none, none, none, rfl, ks p ms _ (Same.new hp) upd_same⟩ (fun i σ H2 _ hz => by obtain ⟨_, _, _, _, _, _, _, _, _, _, q⟩ := hz; exact SqL.of q.hp) ?_ ?_⟩
    · rintro i y σ H2 hi ⟨u2, u3, u4, u5, u6, u7, u8, u9, v1, rfl, kp⟩
      obtain ⟨z, rfl⟩ : ∃ z, y = V.int z := by
        rw [List.getElem?_map] at hi
        cases e : ms[i]? with
        | none => rw [e] at hi; cases hi
        | some z => rw [e] at hi; exact ⟨z, (Option.some.inj hi).symm⟩
      refine ⟨_, rfl, z, rfl, fun q H3 hq S3 s3 k3 => ?_⟩
      have nq : ∀ b ∈ [p, ls, b1, b2, b3, b4], b ≠ q := by
        intro b hb
        simp only [List.mem_cons, List.not_mem_nil, or_false] at hb
        rcases hb with rfl | rfl | rfl | rfl | rfl | rfl
        · exact ne_of_none kp.hp hq
        · exact ne_of_none kp.hs hq
        · exact ne_of_none kp.h1 hq
        · exact ne_of_none kp.h2 hq
        · exact ne_of_none kp.h3 hq
        · exact ne_of_none kp.h4 hq
      have kq : ∀ {H H' : Hp} {n : Int}, Keep7 p ls b1 b2 b3 b4 Pt Pl ms H → Src H q n → GrownBut q H H' → Keep7 p ls b1 b2 b3 b4 Pt Pl ms H' := fun k S g => by
        obtain ⟨_, _, _, e, _⟩ := S
        exact k.but e (fun _ z => nomatch z) (fun _ z => nomatch z) nq g
      have fq : ∀ {b : Addr}, H3 b = none → b ≠ q := fun {b} h => by obtain ⟨_, _, _, e, _⟩ := S3; exact (ne_of_none e h).symm
      have kp3 := kp.same s3
      refine ⟨_, rfl, q, 0, rfl, S3, by decide, fun l rs H4 ok hd4 S4 k4 => ?_⟩
      have kp4 := kq kp3 S3 k4
      have hd4' : Has (fun a => a ≠ q) H4 (.ref l) (.list (rs.map rowD)) := hd4.frame fun b o g e => ⟨fq g, e⟩
      have r5 := ok.le
      have r0 := ok.ne
      obtain ⟨l', xs, e, gl, hl4, hz4, hx4⟩ := id hd4'.list_inv
      cases e
      have xl : xs.length = rs.length := by rw [hx4.length, List.length_map]
      refine ⟨_, rfl, _, rfl, q, l, xs, _, rfl, SqL.of hl4, gl, S4, by omega, by omega, by omega, fun r tb bb H7 hr7 fr7 S7 k7 => ?_⟩
      have kp7 := kq kp4 S4 k7
      have hd7 : Has (fun a => a ≠ q) H7 (.ref l) (.list (rs.map rowD)) := hd4'.frame fun b o g e => ⟨g, k7 _ _ e g⟩
      have hd7r : Has Any H7 (.ref r) (.list ((turnL tb bb rs).map rowD)) := by
        refine .lst trivial hr7 (by rw [turnL_len]; omega) ?_
        rw [← turnL_map]
        exact hasAll_turn tb bb (hx4.frame fun b o g e => ⟨trivial, k7 _ _ e g⟩)
      have rp : RowsP (turnL tb bb rs) := ⟨rs, ok, turnL_perm tb bb rs⟩
      refine ⟨r, turnL tb bb rs, rfl, hd7r, rp, kp7.hT, fun kk d ord kvs zs H8 ka8 fk8 fd8 Z8 KF8 hzs hpl gro lno T8 g8 => ?_⟩
      have kp8 := kp7.tab hne g8 T8
      have S8 : Src H8 q (0 + 300 + 2) := by
        obtain ⟨a', c', j', e, r⟩ := S7
        exact ⟨a', c', j', g8 _ _ e (kp7.hT.ne e fun _ z => nomatch z), r⟩
      have hd8 := has_grown hd7 kp7.hT g8
      have hq8 : ∃ xs, H8 q = some (.lst xs) := by obtain ⟨_, _, _, e, _⟩ := S8; exact ⟨_, e⟩
      have hl7 := k7 _ _ hl4 gl
      have hl8 := g8 _ _ hl7 (kp7.hT.ne hl7 fun _ z => nomatch z)
      have hx8 : HasAll (fun a => a ≠ q) H8 xs (rs.map rowD) := by
        obtain ⟨l', xs', e, _, hl8', _, hx8⟩ := id hd8.list_inv
        cases e
        rw [hl8] at hl8'
        cases hl8'
        exact hx8
      refine ⟨_, rfl, _, rfl, q, l, xs, _, rfl, SqL.of hl8, gl, S8, by decide, by omega, by omega, fun r2 tb2 bb2 H9 hr9 fr9 S9 k9 => ?_⟩
      have kp9 := kq kp8 S8 k9
      have r2q : r2 ≠ q := by obtain ⟨xq, e⟩ := hq8; exact Ne.symm (ne_of_none e fr9)
      have okr : ∀ r ∈ rs, nameOk r.name := fun r hr => (ok.ok r hr).1
      have hzr : (zs.map (·.2)).Perm rs := by rw [hzs]; exact turnL_perm tb bb rs
      have hop : ord.Perm (zs.map fun q => q.2.name) := by
        have := ord_perm gro lno rp.nd
        rw [← hzs, List.map_map] at this
        exact this
      have pm2 := turnL_perm tb2 bb2 rs
      have tl2 : (turnL tb2 bb2 rs).length = rs.length := turnL_len tb2 bb2 rs
      have in9 : In7 CK C q l r2 kk d rs (turnL tb2 bb2 rs) kvs zs H9 := by
        refine ⟨?_, hd8.frame fun b o g e => ⟨g, k9 _ _ e g⟩, .lst r2q hr9 (by rw [turnL_len]; omega) ?_, ka8.mono fun b o e hs => k9 b o e ?_, fun y hy => (KF8 y hy).frame (fun b o e ⟨_, _, _, eo⟩ => k9 b o e ?_) fun b o g _ e => ?_⟩
        · obtain ⟨_, _, _, e, _⟩ := S9
          exact ⟨_, e⟩
        · rw [← turnL_map]
          exact hasAll_turn tb2 bb2 (hx8.frame fun b o g e => ⟨g, k9 _ _ e g⟩)
        · rintro rfl
          obtain ⟨xq, eq⟩ := hq8
          rw [eq] at e
          cases e
          rcases hs with ⟨_, _, _, z⟩ | ⟨_, z⟩ | ⟨_, _, z⟩ <;> cases z
        · rintro rfl
          obtain ⟨xq, eq⟩ := hq8
          rw [eq] at e
          cases e
          cases eo
        · have bq : b ≠ q := by
            rintro rfl
            obtain ⟨_, _, _, e7, _⟩ := S7
            rw [e7] at g; cases g
          exact ⟨bq, k9 _ _ e bq⟩
      have nd8 : ∀ b ∈ [p, ls, b1, b2, b3, b4], b ≠ d := by
        intro b hb
        simp only [List.mem_cons, List.not_mem_nil, or_false] at hb
        rcases hb with rfl | rfl | rfl | rfl | rfl | rfl
        · exact ne_of_none kp7.hp fd8
        · exact ne_of_none kp7.hs fd8
        · exact ne_of_none kp7.h1 fd8
        · exact ne_of_none kp7.h2 fd8
        · exact ne_of_none kp7.h3 fd8
        · exact ne_of_none kp7.h4 fd8
      have kd : ∀ {H H' : Hp}, Keep7 p ls b1 b2 b3 b4 Pt Pl ms H → Rd H d (.dK kvs) → GrownBut d H H' → Keep7 p ls b1 b2 b3 b4 Pt Pl ms H' := fun k r g => by
        rcases r with e | ⟨x, e⟩
        · exact k.but e (fun _ z => nomatch z) (fun _ z => nomatch z) nd8 g
        · exact k.but e (fun _ z => nomatch z) (fun _ z => nomatch z) nd8 g
      have Znd := Z8.nd
      have Zle := Z8.le
      have qd : ∀ {H : Hp} {n : Int}, Rd H d (.dK kvs) → Src H q n → q ≠ d := fun r S => by
        obtain ⟨_, _, _, e, _⟩ := S
        exact rd_seq r e (fun _ z => nomatch z) fun _ _ z => nomatch z
      have sd : ∀ {H H' : Hp} {n : Int}, Rd H d (.dK kvs) → Src H q n → GrownBut d H H' → Src H' q n := fun r S g => by
        have := qd r S
        obtain ⟨a', c', j', e, r⟩ := S
        exact ⟨a', c', j', g _ _ e this, r⟩
      clear hd4 hd4' hl4 hz4 hx4 k4 S4 kp4 kp3 k3 s3 hq k7 fr7 hr7 hd7 hd7r S3 fq ka8 fk8 g8 KF8 T8 kp8 S8 hd8 hq8 hl7 hl8 hx8 k9 fr9 kp S7
      refine ⟨r2, rfl, ⟨_, SqL.of hr9⟩, for_list (K := K) (a := r2) (xs := turnL tb2 bb2 xs) (fun j σ H2 => ∃ x6 x7 x8 x9 x10 : Option V, σ = [some (.ref a), some (.ref ls), some (.int z), some (.ref q), some (.ref l), some (.ref kk), x6, x7, x8, x9, x10] ∧ Keep7 p ls b1 b2 b3 b4 Pt Pl ms H2 ∧ In7 CK C q l r2 kk d rs (turnL tb2 bb2 rs) kvs zs H2 ∧ H2 r2 = some (.lst (turnL tb2 bb2 xs)) ∧ Src H2 q (304 + j))
        ⟨_, _, _, _, _, rfl, kp9, in9, hr9, ?_⟩ (fun i σ H2 _ hz => by obtain ⟨_, _, _, _, _, _, _, _, q, _⟩ := hz; exact SqL.of q) ?_ ?_⟩
      · obtain ⟨a', c', j', e, r⟩ := S9
        exact ⟨a', c', j', e, r.1, by have := r.2; omega⟩
      · rintro j x σ H10 hj ⟨x6, x7, x8, x9, x10, rfl, kp10, in10, hr10, S10⟩
        have jl : j < rs.length := by
          have := (List.getElem?_eq_some_iff.mp hj).1
          rw [turnL_len] at this
          omega
        obtain ⟨_, xs', e, _, hr10', _, hx10⟩ := id in10.hr.list_inv
        cases e
        rw [hr10] at hr10'
        cases hr10'
        obtain ⟨dd, hdd, hv⟩ := hx10.get hj
        rw [List.getElem?_map] at hdd
        cases er : (turnL tb2 bb2 rs)[j]? with
        | none => rw [er] at hdd; cases hdd
        | some row =>
          rw [er] at hdd
          cases hdd
          have mrow : row ∈ rs := pm2.mem_iff.mp (List.mem_of_getElem? er)
          have nmok := okr row mrow
          have hmem : row.name ∈ ord := by
            rw [hop.mem_iff]
            have : row ∈ zs.map (·.2) := hzr.mem_iff.mpr mrow
            obtain ⟨y, hy, e⟩ := List.mem_map.mp this
            exact List.mem_map.mpr ⟨y, hy, by rw [e]⟩
          obtain ⟨t, lf, rfl, ht, hf⟩ := row_inv hv
          refine ⟨t, _, rfl, SqT.of ht, rfl, _, _, rfl, _, _, rfl, _, _, rfl, rfl, ?_⟩
          refine ⟨_, rfl, q, 2, _, rfl, S10, by omega, by decide, by decide, fun v H11 v0 v2 S11 k11 => ⟨rfl, _, rfl, ?_⟩⟩
          have g11 : GrownBut q H10 H11 := fun b o e nb => (k11 b nb).trans e
          have kp11 := kq kp10 S10 g11
          have in11 := in10.stepQ g11 (by obtain ⟨_, _, _, e, _⟩ := S11; exact ⟨_, e⟩)
          have hr11 := g11 _ _ hr10 r2q
          have tq : t ≠ q := by obtain ⟨xq, e⟩ := in10.hq; exact ne_of ht e (fun z => nomatch z)
          have ht11 := g11 _ _ ht tq
          have hf11 : Has (fun a => a ≠ q) H11 (.ref lf) (.list (row.fields.map fieldD)) := hf.frame fun b o g e => ⟨g, g11 _ _ e g⟩
          clear hf ht hx10 hv hr10 in10 kp10 k11 g11
          refine' k_gen (F := fun Hx => Keep7 p ls b1 b2 b3 b4 Pt Pl ms Hx ∧ In7 CK C q l r2 kk d rs (turnL tb2 bb2 rs) kvs zs Hx ∧ Hx r2 = some (.lst (turnL tb2 bb2 xs)) ∧ Src Hx q (304 + j + 1) ∧ Has (fun a => a ≠ q) Hx (.ref lf) (.list (row.fields.map fieldD))) _ (fun tl => _)
          rotate_left 2
          · by_cases c : v = 0
            · subst c
              rw [decide_eq_true rfl]
              refine iteT ⟨_, rfl, _, rfl, _, rfl, kk, d, l, kvs, row.name, zs, ord, rs, rfl, nmok, in11.ka, in11.zz Znd Zle, hpl, hop, hmem, hzr, okr, in11.hl.any, fun H12 rd12 fr12 => ⟨_, rfl, iteF (tl H12 ?_)⟩⟩
              have in12 := in11.stepD fr12 rd12
              exact ⟨kd kp11 in11.ka.2 fr12, in12, fr12 _ _ hr11 (rd_seq in11.ka.2 hr11 (fun _ z => nomatch z) fun _ _ z => nomatch z), sd in11.ka.2 S11 fr12, hf11.frameS fun b o g hs e => ⟨g, fr12 _ _ e (rd_seq in11.ka.2 e (by rintro _ rfl; exact hs) (by rintro _ _ rfl; exact hs))⟩⟩
            · rw [decide_eq_false (show ¬ V.int v = V.int 0 by intro z; injection z with z; exact c z)]
              exact iteF (iteF (tl H11 ⟨kp11, in11, hr11, S11, hf11⟩))
          · rintro Hx ⟨kpx, inx, hrx, Sx, hfx⟩
            obtain ⟨⟨dxk, hkq⟩, rdx⟩ := inx.ka
            obtain ⟨q0, hq0, hv0, en0⟩ := hpl.get row.name hmem
            have er0 : q0.2 = row := ok.one (hzr.mem_iff.mp (List.mem_map.mpr ⟨q0, hq0, rfl⟩)) mrow en0
            refine ⟨_, rfl, kk, dxk, _, rfl, hkq, ks_no _ (by decide +kernel), _, rfl, kk, d, kvs, row.name, V.ref q0.1, rfl, nmok, ⟨⟨dxk, hkq⟩, rdx⟩, hv0, fun H13 s13 => ?_⟩
            have kp13 := kpx.same s13
            have in13 := inx.same s13
            have hr13 := s13 _ _ hrx
            have S13 : Src H13 q (304 + j + 1) := by obtain ⟨a', c', j', e, r⟩ := Sx; exact ⟨a', c', j', s13 _ _ e, r⟩
            have hf13 := hfx.mono s13
            obtain ⟨dx0, lf0, e0, hf0⟩ := in13.hk q0 hq0
            rw [er0] at e0 hf0
            refine ⟨_, rfl, _, _, _, _, _, rfl, .ins e0 A.KC.cl A.KI.ha A.KI.hn A.KI.htk A.KI.hm, rfl, A.KI.one, _, rfl, iteF ?_⟩
            refine ⟨_, rfl, q0.1, C, dx0, _, _, rfl, e0, A.KC.cl, A.KC.nN, kf_name _ _ _, _, rfl, rfl, _, rfl, ?_⟩
            rw [show (!decide (V.str row.name = V.str row.name)) = false by simp]
            refine iteF ⟨_, rfl, q0.1, C, dx0, _, _, rfl, e0, A.KC.cl, A.KC.nF, kf_fields _ _ _, _, rfl, ne_same (G := fun a => a ≠ q) (G' := fun a => a ≠ q) hf0 hf13 (depth_flist _) ⟨_, rfl, ?_⟩⟩
            refine iteF ⟨_, rfl, q0.1, C, dx0, _, _, rfl, e0, A.KC.cl, A.KC.nO, kf_owner _ _ _, _, rfl, scal_own _, _, rfl, ?_⟩
            rw [show (!decide (ownV row.owner = ownV row.owner)) = false by simp]
            refine iteF ?_
            refine ⟨_, rfl, _, rfl, _, rfl, kk, d, l, kvs, row.name, zs, ord, rs, rfl, nmok, in13.ka, in13.zz Znd Zle, hpl, hop, hmem, hzr, okr, in13.hl.any, fun H14 rd14 fr14 => ⟨_, rfl, iteF ?_⟩⟩
            refine ⟨_, _, _, _, _, rfl, kd kp13 in13.ka.2 fr14, in13.stepD fr14 rd14, fr14 _ _ hr13 (rd_seq in13.ka.2 hr13 (fun _ z => nomatch z) fun _ _ z => nomatch z), ?_⟩
            have := sd in13.ka.2 S13 fr14
            obtain ⟨a', c', j', e, r⟩ := this
            exact ⟨a', c', j', e, r.1, by have := r.2; omega⟩
      · rintro σ H10 ⟨x6, x7, x8, x9, x10, rfl, kp10, in10, hr10, S10⟩
        obtain ⟨_, xl', e, glx, hl10, _, hx10⟩ := id in10.hl.list_inv
        cases e
        have xl2 : xl'.length = rs.length := by rw [hx10.length, List.length_map]
        obtain ⟨xi, vl, exl⟩ : ∃ xi vl, xl' = xi ++ [vl] := ⟨xl'.dropLast, xl'.getLast (by intro z; rw [z] at xl2; simp at xl2; omega), (List.dropLast_concat_getLast _).symm⟩
        obtain ⟨vf, ef⟩ : ∃ vf, xl'[0]? = some vf := ⟨_, List.getElem?_eq_getElem (by omega)⟩
        have el : xl'[xi.length]? = some vl := by rw [exl]; simp
        have rowAt : ∀ {i : Nat} {v : V}, xl'[i]? = some v → ∃ (row : Row) (t lf : Addr), row ∈ rs ∧ v = .ref t ∧ H10 t = some (.tup [.str row.name, .ref lf, ownV row.owner]) := fun {i v} h => by
          obtain ⟨dd, hdd, hv⟩ := hx10.get h
          rw [List.getElem?_map] at hdd
          cases er : rs[i]? with
          | none => rw [er] at hdd; cases hdd
          | some row =>
            rw [er] at hdd
            cases hdd
            obtain ⟨t, lf, rfl, ht, _⟩ := row_inv hv
            exact ⟨row, t, lf, List.mem_of_getElem? er, rfl, ht⟩
        obtain ⟨rf, tf, lff, mf, rfl, htf⟩ := rowAt ef
        obtain ⟨rl, tl, lfl, ml, rfl, htl⟩ := rowAt el
        have nf := (okr rf mf).2.2
        have nl := (okr rl ml).2.2
        have lx : (rf.name ++ ("x" : Str)).length = rf.name.length + 1 := by rw [PySem.Str.length_append]; rfl
        have ld : (rl.name ++ ("." : Str)).length = rl.name.length + 1 := by rw [PySem.Str.length_append]; rfl
        refine ⟨_, rfl, _, rfl, l, _, 0, _, rfl, rfl, SqL.of hl10, atI_nat (j := 0) ef, tf, _, 0, _, rfl, rfl, SqT.of htf, rfl, rf.name, "x", rfl, rfl, small _ (by rw [show ("x" : Str).length = 1 from rfl]; omega), ?_⟩
        refine ⟨_, rfl, 1, rfl, l, _, -1, _, rfl, rfl, SqL.of hl10, by rw [exl]; exact atI_last _ _, tl, _, 0, _, rfl, rfl, SqT.of htl, rfl, rl.name, ".", rfl, rfl, small _ (by rw [show ("." : Str).length = 1 from rfl]; omega), ?_⟩
        refine ⟨by show 3 ≤ sizeLine; exact small 3 (by decide), fun ln hln => ?_⟩
        refine ⟨ls, ln, strange b1 b2 b3 b4, _, rfl, rfl, (Same.new hln) _ _ kp10.hs, upd_same, by show 12 + 3 ≤ sizeLine; exact small 15 (by decide), fun lc hlc => ?_⟩
        have s11 : Same H10 (upd (upd H10 ln (.lst [.str (rf.name ++ ("x" : Str)), .str "q", .str (rl.name ++ ("." : Str))])) lc (.lst (strange b1 b2 b3 b4 ++ [.str (rf.name ++ ("x" : Str)), .str "q", .str (rl.name ++ ("." : Str))]))) := (Same.new hln).trans (Same.new hlc)
        have e11 : (upd (upd H10 ln (.lst [.str (rf.name ++ ("x" : Str)), .str "q", .str (rl.name ++ ("." : Str))])) lc (.lst (strange b1 b2 b3 b4 ++ [.str (rf.name ++ ("x" : Str)), .str "q", .str (rl.name ++ ("." : Str))]))) lc = some (.lst (strange b1 b2 b3 b4 ++ [.str (rf.name ++ ("x" : Str)), .str "q", .str (rl.name ++ ("." : Str))])) := upd_same
        generalize upd (upd H10 ln (.lst [.str (rf.name ++ ("x" : Str)), .str "q", .str (rl.name ++ ("." : Str))])) lc (.lst (strange b1 b2 b3 b4 ++ [.str (rf.name ++ ("x" : Str)), .str "q", .str (rl.name ++ ("." : Str))])) = H11 at s11 e11 ⊢
        have kp11 := kp10.same s11
        have in11 := in10.same s11
        have S11 : Src H11 q (304 + (turnL tb2 bb2 xs).length) := by obtain ⟨a', c', j', e, r⟩ := S10; exact ⟨a', c', j', s11 _ _ e, r⟩
        have tl3 : (turnL tb2 bb2 xs).length = xs.length := turnL_len tb2 bb2 xs
        refine ⟨_, rfl, q, 15, _, rfl, S11, by omega, by decide, by decide, fun v H12 v0 v15 S12 k12 => ?_⟩
        have g12 : GrownBut q H11 H12 := fun b o e nb => (k12 b nb).trans e
        have kp12 := kq kp11 S11 g12
        have in12 := in11.stepQ g12 (by obtain ⟨_, _, _, e, _⟩ := S12; exact ⟨_, e⟩)
        have lcq : lc ≠ q := by
          rintro rfl
          obtain ⟨_, _, _, e, _⟩ := S11
          rw [e11] at e
          have := congrArg (fun o => match o with | some (HO.lst l) => l.length | _ => 0) e
          simp [strange] at this
        have e12 := g12 _ _ e11 lcq
        obtain ⟨j, rfl⟩ : ∃ j : Nat, v = (j : Int) := ⟨v.toNat, by omega⟩
        obtain ⟨th, eth⟩ : ∃ th, (strange b1 b2 b3 b4 ++ [.str (rf.name ++ ("x" : Str)), .str "q", .str (rl.name ++ ("." : Str))])[j]? = some th := ⟨_, List.getElem?_eq_getElem (by show j < 12 + 3; omega)⟩
        have tht : Thing H12 th := by
          rcases List.mem_append.mp (List.mem_of_getElem? eth) with h | h
          · exact strange_thing kp12 th h
          · simp only [List.mem_cons, List.not_mem_nil, or_false] at h
            rcases h with rfl | rfl | rfl
            · exact .inl ⟨_, rfl, by omega⟩
            · exact .inl ⟨_, rfl, by decide +kernel⟩
            · exact .inl ⟨_, rfl, by omega⟩
        refine ⟨lc, _, _, th, rfl, rfl, SqL.of e12, atI_nat eth, ?_⟩
        clear eth e12 e11 lcq g12 k12 kp11 in11 S11 s11 S10 kp10 hr10 htf htl rowAt hx10 hl10 in10
        obtain ⟨_, xl', e, glx, hl12, _, hx12⟩ := id in12.hl.list_inv
        cases e
        have xl2 : xl'.length = rs.length := by rw [hx12.length, List.length_map]
        refine ⟨_, rfl, _, rfl, l, rfl, ⟨_, SqL.of hl12⟩, comp_list (xs := xl') (fun i ys H' => H12 = H' ∧ ys = ((rs.take i).map (·.name)).map V.str) ⟨rfl, rfl⟩ (fun i ys H' p => by rw [← p.1]; exact SqL.of hl12) (fun i ys H' hi p => ?_) ?_ ?_⟩
        · rw [p.2, List.length_map, List.length_map]
          have : (rs.take i).length ≤ rs.length := by rw [List.length_take]; omega
          exact small _ (by omega)
        · rintro i x ys H' hi ⟨rfl, rfl⟩ N hN
          obtain ⟨dd, hdd, hv⟩ := hx12.get hi
          rw [List.getElem?_map] at hdd
          cases er : rs[i]? with
          | none => rw [er] at hdd; cases hdd
          | some row =>
            rw [er] at hdd
            cases hdd
            obtain ⟨t, lf, rfl, ht, _⟩ := row_inv hv
            refine pick ?_
            refine ⟨_, rfl, t, _, 0, _, rfl, rfl, SqT.of ht, rfl, hN _ _ ⟨rfl, ?_⟩⟩
            rw [List.take_add_one, er, List.map_append, List.map_append]
            rfl
        · rintro ys H' ⟨rfl, rfl⟩ ln2 hln2
          rw [xl2, List.take_length]
          have s13 : Same H12 (upd H12 ln2 (.lst ((rs.map (·.name)).map V.str))) := Same.new hln2
          have e13 : (upd H12 ln2 (.lst ((rs.map (·.name)).map V.str))) ln2 = some (.lst ((rs.map (·.name)).map V.str)) := upd_same
          generalize upd H12 ln2 (.lst ((rs.map (·.name)).map V.str)) = H13 at s13 e13 ⊢
          have kp13 := kp12.same s13
          have in13 := in12.same s13
          have th13 : Thing H13 th := tht.keep fun b o _ e _ => s13 _ _ e
          have omem : ∀ n : Str, n ∈ ord → n ∈ rs.map (·.name) := fun n hn => by
            have h1 := hop.mem_iff.mp hn
            obtain ⟨y, hy, e⟩ := List.mem_map.mp h1
            exact List.mem_map.mpr ⟨y.2, hzr.mem_iff.mp (List.mem_map.mpr ⟨y, hy, rfl⟩), e⟩
          refine' k_gen (F := fun Hx => Hx = H13 ∧ ∀ n : Str, th = .str n → n ∉ ord) _ (fun tl => _)
          rotate_left 2
          · rcases id th13 with ⟨n, e, nl⟩ | e | ⟨i, e⟩ | ⟨b, e⟩ | ⟨ad, e, ho⟩
            · refine .inl ⟨ln2, _, rfl, .inl (SqL.of e13), by rw [e]; rfl, flats _, _, rfl, ?_⟩
              have ei : inV th ((rs.map (·.name)).map V.str) = decide (n ∈ rs.map (·.name)) := by rw [e]; exact in_strs _
              rw [ei]
              by_cases c : n ∈ rs.map (·.name)
              · rw [decide_eq_true c]
                exact iteF ⟨_, _, _, _, _, _, _, _, _, rfl, kp13⟩
              · rw [decide_eq_false c]
                refine iteT (tl _ ⟨rfl, fun m hm hmo => ?_⟩)
                rw [e] at hm
                cases hm
                exact c (omem _ hmo)
            · refine .inl ⟨ln2, _, rfl, .inl (SqL.of e13), by rw [e]; rfl, flats _, _, rfl, ?_⟩
              rw [in_other (v := th) (by rw [e]; rfl) (by rw [e]; exact fun _ z => V.noConfusion z)]
              exact iteT (tl _ ⟨rfl, fun m hm => by rw [e] at hm; cases hm⟩)
            · refine .inl ⟨ln2, _, rfl, .inl (SqL.of e13), by rw [e]; rfl, flats _, _, rfl, ?_⟩
              rw [in_other (v := th) (by rw [e]; rfl) (by rw [e]; exact fun _ z => V.noConfusion z)]
              exact iteT (tl _ ⟨rfl, fun m hm => by rw [e] at hm; cases hm⟩)
            · refine .inl ⟨ln2, _, rfl, .inl (SqL.of e13), by rw [e]; rfl, flats _, _, rfl, ?_⟩
              rw [in_other (v := th) (by rw [e]; rfl) (by rw [e]; exact fun _ z => V.noConfusion z)]
              exact iteT (tl _ ⟨rfl, fun m hm => by rw [e] at hm; cases hm⟩)
            · exact .inr ⟨ad, ln2, _, e, rfl, ho, e13, _, rfl, iteT (tl _ ⟨rfl, fun m hm => by rw [e] at hm; cases hm⟩)⟩
          · rintro Hx ⟨rfl, hno⟩
            refine ⟨[.ref kk, th], rfl, kp13.hM, fun f1 c1 cl1 H14 M14 g14 hc14 fr14 => ⟨rfl, fr14, hc14, fun Q' E' rf' => ?_, fun H15 s15 => ⟨rfl, _, rfl, ?_⟩⟩⟩
            · have th14 : Thing H14 th := th13.keep fun b o _ e ho => g14 _ _ e (kp13.hM.ne e (by rcases ho with ⟨_, rfl⟩ | ⟨_, rfl⟩ | ⟨_, rfl⟩ <;> exact fun _ z => nomatch z))
              exact ⟨kk, d, kvs, th, rfl, th14.no hpl hno, (in13.lam kp13.hM g14).ka, rf'⟩
            · rw [show (!decide (V.str "name" = V.str "name")) = false by simp]
              refine iteF ?_
              have th15 : Thing H15 th := (th13.keep fun b o _ e ho => g14 _ _ e (kp13.hM.ne e (by rcases ho with ⟨_, rfl⟩ | ⟨_, rfl⟩ | ⟨_, rfl⟩ <;> exact fun _ z => nomatch z))).keep fun b o _ e _ => s15 _ _ e
              have kp15 := (kp13.lam hne g14 M14).same s15
              have in15 := (in13.lam kp13.hM g14).same s15
              refine ⟨[.ref kk, th], rfl, kp15.hM, fun f2 c2 cl2 H16 M16 g16 hc16 fr16 => ⟨rfl, fr16, hc16, fun Q' E' rf' => ?_, fun H17 s17 => ⟨rfl, _, rfl, ?_⟩⟩⟩
              · have th16 : Thing H16 th := th15.keep fun b o _ e ho => g16 _ _ e (kp15.hM.ne e (by rcases ho with ⟨_, rfl⟩ | ⟨_, rfl⟩ | ⟨_, rfl⟩ <;> exact fun _ z => nomatch z))
                exact ⟨kk, d, kvs, th, rfl, th16.no hpl hno, (in15.lam kp15.hM g16).ka, rf'⟩
              · rw [show (!decide (V.str "name" = V.str "name")) = false by simp]
                exact iteF ⟨_, _, _, _, _, _, _, _, _, rfl, (kp15.lam hne g16 M16).same s17⟩
    · rintro σ H2 ⟨u2, u3, u4, u5, u6, u7, u8, u9, v1, rfl, kp⟩
      refine ⟨Nat.zero_le _, fun l1 h1 => ⟨by show 3 ≤ sizeLine; exact small 3 (by decide), fun t1 ht1 => ?_⟩⟩
      obtain ⟨s1, d1⟩ := row0 (n := "a") (o := none) h1 ht1 nma fun x e => nomatch e
      have s1' : Same H2 (upd (upd H2 l1 (.lst [])) t1 (.tup [.str "a", .ref l1, .non])) := s1
      have d1' : Has Any (upd (upd H2 l1 (.lst [])) t1 (.tup [.str "a", .ref l1, .non])) (.ref t1) (rowD ⟨"a", [], none⟩) := d1
      clear s1 d1
      generalize upd (upd H2 l1 (.lst [])) t1 (.tup [.str "a", .ref l1, .non]) = H3 at s1' d1' ⊢
      refine ⟨one, fun lr hlr => ?_⟩
      have sr : Same H3 (upd H3 lr (.lst [.ref t1])) := Same.new hlr
      refine ⟨lr, rows1, rfl, .lst trivial upd_same (by show 1 ≤ 1000; decide) (.cons (d1'.mono sr) .nil), ⟨rows1, ok1, .refl _⟩, (kp.hT.same s1').same sr, fun kk d ord kvs zs H8 KX _ _ ZX _ hzs hpl gro lno TX gG => ?_⟩
      obtain ⟨⟨dxk, hkq⟩, rd⟩ := KX
      have hop : ord.Perm (zs.map fun q => q.2.name) := by
        have := ord_perm gro lno ok1.nd
        rw [← hzs, List.map_map] at this
        exact this
      have hn : ("a" : Str) ∈ ord := by
        rw [(ord_perm gro lno ok1.nd).mem_iff]
        exact List.mem_map.mpr ⟨⟨"a", [], none⟩, List.mem_singleton.mpr rfl, rfl⟩
      refine ⟨kk, dxk, _, rfl, hkq, ks_no _ (by decide +kernel), kk, d, kvs, "a", zs, ord, rfl, nma, ⟨⟨dxk, hkq⟩, rd⟩, ZX, hpl, hn, by rw [lno]; decide, fun q ks H9 fq hq rd9 fr9 ⟨ys, hys, own⟩ => ⟨Nat.zero_le _, fun l9 h9 => ?_⟩⟩
      have ek : ks = [] := (own_due hys hop ZX.nd (by rw [hzs]) own).1.eq_nil
      subst ek
      exact eq_same (G := Any) (G' := Any) (d := .list []) (.lst trivial ((Same.new h9) _ _ hq) (by decide) .nil) (.lst trivial upd_same (by decide) .nil) (by decide) (k _)
end
end L2.W
-- MOD K7Q
namespace L2.W
open PySem My
theorem all_mk {l : PySem.W.OpenLaw} {w : World} {K : PySem.W.Frag} {h : Heap} {mg : Str → Option Value} {fx : Addr} (X : K.In h) (G : h.Ns mainGlobals mg) (hfa : mg "law" = some (.ref fx))
    {C CK fI TD c Pt cL Pl CN CR C1 C2 C3 : Addr} {ts : List Addr} {ocI kVI dcI pmI cdI ctI : Value} {odI anI : Option Addr} {slI : Array (Option Value)} {ocT : Value} {odT : Option Addr} {slT : Array (Option Value)} {nT : Nat} {t1 t2 t3 : Tok}
    {fN : Addr} {ocN kVN dcN pmN ctN : Value} {odN anN : Option Addr} {slN : Array (Option Value)} {cdN : Value}
    {fU : Addr} {ocU kVU dcU pmU ctU : Value} {odU anU : Option Addr} {slU : Array (Option Value)} {cdU : Value}
    {fP : Addr} {ocP kVP dcP pmP ctP : Value} {odP anP : Option Addr} {slP : Array (Option Value)} {cdP : Value}
    {fF : Addr} {ocF kVF dcF pmF ctF : Value} {odF anF : Option Addr} {slF : Array (Option Value)} {cdF : Value}
    {fCt : Addr} {ocCt kVCt dcCt pmCt ctCt : Value} {odCt anCt : Option Addr} {slCt : Array (Option Value)} {cdCt : Value}
    {fA : Addr} {ocA kVA dcA pmA ctA : Value} {odA anA : Option Addr} {slA : Array (Option Value)} {cdA : Value}
    {fp : Addr} {ocp kVp dcp pmp ctp : Value} {odp anp : Option Addr} {slp : Array (Option Value)}
    {fm : Addr} {ocm kVm dcm pmm ctm : Value} {odm anm : Option Addr} {slm : Array (Option Value)} {cdm : Value}
    {fd : Addr} {ocd kVd dcd pmd ctd : Value} {odd and : Option Addr} {sld : Array (Option Value)} {cdd : Value}
    {fn : Addr} {ocn kVn dcn pmn ctn : Value} {odn ann : Option Addr} {sln : Array (Option Value)} {cdn : Value}
    {fg : Addr} {ocg kVg dcg pmg ctg : Value} {odg ang : Option Addr} {slg : Array (Option Value)} {cdg : Value}
    {fa : Addr} {oca kVa dca pma cta : Value} {oda ana : Option Addr} {sla : Array (Option Value)} {cda : Value}
    {fl : Addr} {ocl kVl dcl pml ctl : Value} {odl anl : Option Addr} {sll : Array (Option Value)} {cdl : Value}
    {fS : Addr} {ocS kVS dcS pmS ctS : Value} {odS anS : Option Addr} {slS : Array (Option Value)} {cdS : Value}
    {fTu : Addr} {ocTu kVTu dcTu pmTu ctTu : Value} {odTu anTu : Option Addr} {slTu : Array (Option Value)} {cdTu : Value}
    {fM : Addr} {ocM kVM dcM pmM ctM : Value} {odM anM : Option Addr} {slM : Array (Option Value)} {cdM : Value}
    {fW : Addr} {ocW kVW dcW pmW ctW : Value} {odW anW : Option Addr} {slW : Array (Option Value)} {cdW : Value}
    {fR : Addr} {ocR kVR dcR pmR ctR : Value} {odR anR : Option Addr} {slR : Array (Option Value)} {cdR : Value}
    {fL : Addr} {ocL kVL dcL pmL ctL : Value} {odL anL : Option Addr} {slL : Array (Option Value)}
    {fIk : Addr} {ocIk kVIk dcIk pmIk cdIk ctIk : Value} {odIk anIk : Option Addr} {slIk : Array (Option Value)}
    {fOr : Addr} {ocOr kVOr dcOr pmOr cdOr ctOr : Value} {odOr anOr : Option Addr} {slOr : Array (Option Value)}
    {fOf : Addr} {ocOf kVOf dcOf pmOf cdOf ctOf : Value} {odOf anOf : Option Addr} {slOf : Array (Option Value)}
    {fOw : Addr} {ocOw kVOw dcOw pmOw cdOw ctOw : Value} {odOw anOw : Option Addr} {slOw : Array (Option Value)}
    (aCK : PySem.W.nsIn K mainGlobals "Kinds" = some (some (.ref CK)))
    (xaN : PySem.W.nsIn K mainGlobals "is_name" = some (some (.ref fN))) (xlN : K.lookup fN = some ⟨ocN, odN, .func (PySem.W.fnOf "is_name" "is_name" (defArgs sIsName) (defBody sIsName) (defScope sIsName) .none kVN dcN pmN anN cdN ctN), slN⟩) (xcN : PySem.W.codeIn K cdN "is_name" = true) (xkN : PySem.W.keepIn K (.ref fN) = true)
    (xaU : PySem.W.nsIn K mainGlobals "are_unlike_names" = some (some (.ref fU))) (xlU : K.lookup fU = some ⟨ocU, odU, .func (PySem.W.fnOf "are_unlike_names" "are_unlike_names" (defArgs sUnlike) (defBody sUnlike) (defScope sUnlike) .none kVU dcU pmU anU cdU ctU), slU⟩) (xcU : PySem.W.codeIn K cdU "are_unlike_names" = true) (xkU : PySem.W.keepIn K (.ref fU) = true)
    (xaP : PySem.W.nsIn K mainGlobals "is_pair_with_values" = some (some (.ref fP))) (xlP : K.lookup fP = some ⟨ocP, odP, .func (PySem.W.fnOf "is_pair_with_values" "is_pair_with_values" (defArgs sPair) (defBody sPair) (defScope sPair) .none kVP dcP pmP anP cdP ctP), slP⟩) (xcP : PySem.W.codeIn K cdP "is_pair_with_values" = true) (xkP : PySem.W.keepIn K (.ref fP) = true)
    (xaF : PySem.W.nsIn K mainGlobals "are_fields" = some (some (.ref fF))) (xlF : K.lookup fF = some ⟨ocF, odF, .func (PySem.W.fnOf "are_fields" "are_fields" (defArgs sFields) (defBody sFields) (defScope sFields) .none kVF dcF pmF anF cdF ctF), slF⟩) (xcF : PySem.W.codeIn K cdF "are_fields" = true) (xkF : PySem.W.keepIn K (.ref fF) = true)
    (xaCt : PySem.W.nsIn K mainGlobals "count_states" = some (some (.ref fCt))) (xlCt : K.lookup fCt = some ⟨ocCt, odCt, .func (PySem.W.fnOf "count_states" "count_states" (defArgs sCount) (defBody sCount) (defScope sCount) .none kVCt dcCt pmCt anCt cdCt ctCt), slCt⟩) (xcCt : PySem.W.codeIn K cdCt "count_states" = true) (xkCt : PySem.W.keepIn K (.ref fCt) = true)
    (xaA : PySem.W.nsIn K mainGlobals "are_kinds" = some (some (.ref fA))) (xlA : K.lookup fA = some ⟨ocA, odA, .func (PySem.W.fnOf "are_kinds" "are_kinds" (defArgs sAreKinds) (defBody sAreKinds) (defScope sAreKinds) .none kVA dcA pmA anA cdA ctA), slA⟩) (xcA : PySem.W.codeIn K cdA "are_kinds" = true) (xkA : PySem.W.keepIn K (.ref fA) = true)
    (xap : PySem.W.nsIn K mainGlobals "placed_by_owners" = some (some (.ref fp))) (xlp : K.lookup fp = some ⟨ocp, odp, .func (PySem.W.fnOf "placed_by_owners" "placed_by_owners" (defArgs sPlaced) (defBody sPlaced) (defScope sPlaced) .none kVp dcp pmp anp (.ref c) ctp), slp⟩) (xcp : PySem.W.codeIn K (.ref c) "placed_by_owners" = true) (xkp : PySem.W.keepIn K (.ref fp) = true)
    (xam : PySem.W.nsIn K mainGlobals "_law_mixed" = some (some (.ref fm))) (xlm : K.lookup fm = some ⟨ocm, odm, .func (PySem.W.fnOf "_law_mixed" "_law_mixed" (defArgs sMixed) (defBody sMixed) (defScope sMixed) .none kVm dcm pmm anm cdm ctm), slm⟩) (xcm : PySem.W.codeIn K cdm "_law_mixed" = true) (xkm : PySem.W.keepIn K (.ref fm) = true)
    (xad : PySem.W.nsIn K mainGlobals "_law_digits" = some (some (.ref fd))) (xld : K.lookup fd = some ⟨ocd, odd, .func (PySem.W.fnOf "_law_digits" "_law_digits" (defArgs sDigits) (defBody sDigits) (defScope sDigits) .none kVd dcd pmd and cdd ctd), sld⟩) (xcd : PySem.W.codeIn K cdd "_law_digits" = true) (xkd : PySem.W.keepIn K (.ref fd) = true)
    (xan : PySem.W.nsIn K mainGlobals "_law_next" = some (some (.ref fn))) (xln : K.lookup fn = some ⟨ocn, odn, .func (PySem.W.fnOf "_law_next" "_law_next" (defArgs sNext) (defBody sNext) (defScope sNext) .none kVn dcn pmn ann cdn ctn), sln⟩) (xcn : PySem.W.codeIn K cdn "_law_next" = true) (xkn : PySem.W.keepIn K (.ref fn) = true)
    (xag : PySem.W.nsIn K mainGlobals "_law_sign" = some (some (.ref fg))) (xlg : K.lookup fg = some ⟨ocg, odg, .func (PySem.W.fnOf "_law_sign" "_law_sign" (defArgs sSign) (defBody sSign) (defScope sSign) .none kVg dcg pmg ang cdg ctg), slg⟩) (xcg : PySem.W.codeIn K cdg "_law_sign" = true) (xkg : PySem.W.keepIn K (.ref fg) = true)
    (xaa : PySem.W.nsIn K mainGlobals "_law_names" = some (some (.ref fa))) (xla : K.lookup fa = some ⟨oca, oda, .func (PySem.W.fnOf "_law_names" "_law_names" (defArgs sNames) (defBody sNames) (defScope sNames) .none kVa dca pma ana cda cta), sla⟩) (xca : PySem.W.codeIn K cda "_law_names" = true) (xka : PySem.W.keepIn K (.ref fa) = true)
    (xal : PySem.W.nsIn K mainGlobals "_law_fields" = some (some (.ref fl))) (xll : K.lookup fl = some ⟨ocl, odl, .func (PySem.W.fnOf "_law_fields" "_law_fields" (defArgs sLFields) (defBody sLFields) (defScope sLFields) .none kVl dcl pml anl cdl ctl), sll⟩) (xcl : PySem.W.codeIn K cdl "_law_fields" = true) (xkl : PySem.W.keepIn K (.ref fl) = true)
    (xaS : PySem.W.nsIn K mainGlobals "_law_specs" = some (some (.ref fS))) (xlS : K.lookup fS = some ⟨ocS, odS, .func (PySem.W.fnOf "_law_specs" "_law_specs" (defArgs sSpecs) (defBody sSpecs) (defScope sSpecs) .none kVS dcS pmS anS cdS ctS), slS⟩) (xcS : PySem.W.codeIn K cdS "_law_specs" = true) (xkS : PySem.W.keepIn K (.ref fS) = true)
    (xaTu : PySem.W.nsIn K mainGlobals "_law_turned" = some (some (.ref fTu))) (xlTu : K.lookup fTu = some ⟨ocTu, odTu, .func (PySem.W.fnOf "_law_turned" "_law_turned" (defArgs sTurned) (defBody sTurned) (defScope sTurned) .none kVTu dcTu pmTu anTu cdTu ctTu), slTu⟩) (xcTu : PySem.W.codeIn K cdTu "_law_turned" = true) (xkTu : PySem.W.keepIn K (.ref fTu) = true)
    (xaM : PySem.W.nsIn K mainGlobals "_law_made" = some (some (.ref fM))) (xlM : K.lookup fM = some ⟨ocM, odM, .func (PySem.W.fnOf "_law_made" "_law_made" (defArgs sMade) (defBody sMade) (defScope sMade) .none kVM dcM pmM anM cdM ctM), slM⟩) (xcM : PySem.W.codeIn K cdM "_law_made" = true) (xkM : PySem.W.keepIn K (.ref fM) = true)
    (xaW : PySem.W.nsIn K mainGlobals "_law_word" = some (some (.ref fW))) (xlW : K.lookup fW = some ⟨ocW, odW, .func (PySem.W.fnOf "_law_word" "_law_word" (defArgs sWord) (defBody sWord) (defScope sWord) .none kVW dcW pmW anW cdW ctW), slW⟩) (xcW : PySem.W.codeIn K cdW "_law_word" = true) (xkW : PySem.W.keepIn K (.ref fW) = true)
    (xaR : PySem.W.nsIn K mainGlobals "_law_right" = some (some (.ref fR))) (xlR : K.lookup fR = some ⟨ocR, odR, .func (PySem.W.fnOf "_law_right" "_law_right" (defArgs sRight) (defBody sRight) (defScope sRight) .none kVR dcR pmR anR cdR ctR), slR⟩) (xcR : PySem.W.codeIn K cdR "_law_right" = true) (xkR : PySem.W.keepIn K (.ref fR) = true)
    (xaL : PySem.W.nsIn K mainGlobals "law" = some (some (.ref fL))) (xlL : K.lookup fL = some ⟨ocL, odL, .func (PySem.W.fnOf "law" "law" (defArgs sLaw) (defBody sLaw) (defScope sLaw) .none kVL dcL pmL anL (.ref cL) ctL), slL⟩) (xcL : PySem.W.codeIn K (.ref cL) "law" = true) (xkL : PySem.W.keepIn K (.ref fL) = true)
    (xaIk : PySem.W.findIn K (.ref CK) "__init__" = some (some (.ref fIk))) (xiIk : PySem.W.isFn K (.ref fIk) = true) (xlIk : K.lookup fIk = some ⟨ocIk, odIk, .func (PySem.W.fnOf "__init__" "Kinds.__init__" (defArgs sInitKs) (defBody sInitKs) (defScope sInitKs) .none kVIk dcIk pmIk anIk cdIk ctIk), slIk⟩) (xcIk : PySem.W.codeIn K cdIk "Kinds.__init__" = true) (xkIk : PySem.W.keepIn K (.ref fIk) = true)
    (xaOr : PySem.W.findIn K (.ref CK) "order" = some (some (.ref fOr))) (xiOr : PySem.W.isFn K (.ref fOr) = true) (xlOr : K.lookup fOr = some ⟨ocOr, odOr, .func (PySem.W.fnOf "order" "Kinds.order" (defArgs sOrder) (defBody sOrder) (defScope sOrder) .none kVOr dcOr pmOr anOr cdOr ctOr), slOr⟩) (xcOr : PySem.W.codeIn K cdOr "Kinds.order" = true) (xkOr : PySem.W.keepIn K (.ref fOr) = true)
    (xaOf : PySem.W.findIn K (.ref CK) "of" = some (some (.ref fOf))) (xiOf : PySem.W.isFn K (.ref fOf) = true) (xlOf : K.lookup fOf = some ⟨ocOf, odOf, .func (PySem.W.fnOf "of" "Kinds.of" (defArgs sOf) (defBody sOf) (defScope sOf) .none kVOf dcOf pmOf anOf cdOf ctOf), slOf⟩) (xcOf : PySem.W.codeIn K cdOf "Kinds.of" = true) (xkOf : PySem.W.keepIn K (.ref fOf) = true)
    (xaOw : PySem.W.findIn K (.ref CK) "owned" = some (some (.ref fOw))) (xiOw : PySem.W.isFn K (.ref fOw) = true) (xlOw : K.lookup fOw = some ⟨ocOw, odOw, .func (PySem.W.fnOf "owned" "Kinds.owned" (defArgs sOwned) (defBody sOwned) (defScope sOwned) .none kVOw dcOw pmOw anOw cdOw ctOw), slOw⟩) (xcOw : PySem.W.codeIn K cdOw "Kinds.owned" = true) (xkOw : PySem.W.keepIn K (.ref fOw) = true)
    (aC : PySem.W.nsIn K mainGlobals "Kind" = some (some (.ref C))) (aI : PySem.W.findIn K (.ref C) "__init__" = some (some (.ref fI))) (iI : PySem.W.isFn K (.ref fI) = true)
    (lI : K.lookup fI = some ⟨ocI, odI, .func (PySem.W.fnOf "__init__" "Kind.__init__" (defArgs sInit) (defBody sInit) (defScope sInit) (.ref TD) kVI dcI pmI anI cdI ctI), slI⟩) (cI : PySem.W.codeIn K cdI "Kind.__init__" = true)
    (lT : K.lookup TD = some ⟨ocT, odT, .seq #[.none] nT, slT⟩)
    (pg : PySem.W.plainGet K C Str.empty = true) (hd : PySem.W.hasDictIn K C = true) (po : PySem.W.plainOver K C = true) (sa : PySem.W.findIn K (.ref C) "__setattr__" = some (some (.builtin "object.__setattr__"))) (mk : PySem.W.makesIn K C = true) (kc : PySem.W.keepIn K (.ref C) = true)
    (nN : PySem.W.findIn K (.ref C) "name" = some none) (nF : PySem.W.findIn K (.ref C) "fields" = some none) (nO : PySem.W.findIn K (.ref C) "owner" = some none)
    (ha : PySem.W.findIn K (.ref C) "__class__" = some (some (.builtin "object.__class__"))) (hn : PySem.W.specialIn K (.builtin "object.__class__") "__get__" = some (some (.builtin "getset_descriptor.__get__"))) (htk : PySem.W.takesIn K (.builtin "object.__class__") = some true) (hm : PySem.W.mroIn K C (.type "object") = some true) (hki : PySem.W.kitOne K (.ref C) (.ref C) = some true)
    (gpg : PySem.W.plainGet K CK Str.empty = true) (ghd : PySem.W.hasDictIn K CK = true) (gpo : PySem.W.plainOver K CK = true) (gsa : PySem.W.findIn K (.ref CK) "__setattr__" = some (some (.builtin "object.__setattr__"))) (gmk : PySem.W.makesIn K CK = true) (gkc : PySem.W.keepIn K (.ref CK) = true) (gnB : PySem.W.findIn K (.ref CK) "by_name" = some none)
    (hts : ts = [Pt, Pl]) (hcd : PySem.W.codeHdIn K c Pt = true) (hout : K.lookup Pt = none) (hcdL : PySem.W.codeHdIn K cL Pl = true) (houtL : K.lookup Pl = none) (hne : Pl ≠ Pt)
    (aR : PySem.W.nsIn K mainGlobals "RestError" = some (some (.ref CR))) (aN : PySem.W.nsIn K mainGlobals "NoKind" = some (some (.ref CN))) (a1 : PySem.W.nsIn K mainGlobals "NoName" = some (some (.ref C1))) (a2 : PySem.W.nsIn K mainGlobals "NoWish" = some (some (.ref C2))) (a3 : PySem.W.nsIn K mainGlobals "TooMany" = some (some (.ref C3))) (zVE : PySem.W.nsIn K mainGlobals "ValueError" = some none)
    (xex : PySem.W.excIn K C1 [.type "ValueError", .type "Exception", .type "BaseException", .type "object"] "ValueError.__new__" = true) (xga : PySem.W.findIn K (.ref C1) "__getattribute__" = some (some (.builtin "BaseException.__getattribute__"))) (xgt : PySem.W.findIn K (.ref C1) "__getattr__" = some none) (xcf : PySem.W.findIn K (.ref C1) "__class__" = some (some (.builtin "object.__class__"))) (xob : PySem.W.mroIn K C1 (.type "object") = some true)
    (xem : PySem.W.exmOne K (.ref C1) (.ref CR) = some true) (xon : PySem.W.kitOne K (.ref C1) (.ref C1) = some true) (xva : PySem.W.kitOne K (.ref C1) (.type "ValueError") = some true) (xot : PySem.W.kitAny K (.ref C1) [.ref CN, .ref C2, .ref C3] = some false)
    (cLt : PySem.W.nsIn K mainGlobals "LETTERS" = some (some (.str letters t1))) (cM : PySem.W.nsIn K mainGlobals "MOST_LETTERS" = some (some (.int 8 t2))) (cS : PySem.W.nsIn K mainGlobals "MOST_STATES" = some (some (.int 8 t3)))
    (z_isinstance : PySem.W.nsIn K mainGlobals "isinstance" = some none)
    (z_len : PySem.W.nsIn K mainGlobals "len" = some none)
    (z_all : PySem.W.nsIn K mainGlobals "all" = some none)
    (z_set : PySem.W.nsIn K mainGlobals "set" = some none)
    (z_range : PySem.W.nsIn K mainGlobals "range" = some none)
    (z_str : PySem.W.nsIn K mainGlobals "str" = some none)
    (z_list : PySem.W.nsIn K mainGlobals "list" = some none)
    (z_tuple : PySem.W.nsIn K mainGlobals "tuple" = some none)
    (z_zip : PySem.W.nsIn K mainGlobals "zip" = some none)
    (z_dict : PySem.W.nsIn K mainGlobals "dict" = some none)
    (z_min : PySem.W.nsIn K mainGlobals "min" = some none)
    (z_sorted : PySem.W.nsIn K mainGlobals "sorted" = some none)
    (z_enumerate : PySem.W.nsIn K mainGlobals "enumerate" = some none)
    (z_int : PySem.W.nsIn K mainGlobals "int" = some none) :
    ∃ fd : FuncData, (∀ (s : Shared) (v : Value), BindsTo s fd ⟨[v], []⟩ [("_law_script", v)]) ∧ (∀ T ∈ ts, K.lookup T = none ∧ ∃ c, PySem.W.codeHdIn K c T = true) ∧ ∃ Pt Pl : Addr, Pt ∈ ts ∧ Pl ∈ ts ∧ Pl ≠ Pt ∧ ∀ base : Heap, K.In base → base.Ns mainGlobals mg → BltAt mg base → FnOk l.prog w K mg base CX0 8 fx fd ["_law_script"] (spLaw7 K Pt Pl) := by
  have e := hfa.symm.trans (PySem.W.mg_of X G xaL)
  cases e
  have T : Tops K mg := ⟨PySem.W.mg_none_of X G z_isinstance, PySem.W.mg_none_of X G z_len, PySem.W.mg_none_of X G z_all, PySem.W.mg_none_of X G z_set, PySem.W.mg_none_of X G z_range, PySem.W.mg_none_of X G z_str, PySem.W.mg_none_of X G z_list, PySem.W.mg_none_of X G z_tuple, PySem.W.mg_none_of X G z_zip, PySem.W.mg_none_of X G z_dict, PySem.W.mg_none_of X G z_min, PySem.W.mg_none_of X G z_sorted, PySem.W.mg_none_of X G z_enumerate, PySem.W.mg_none_of X G z_int, ⟨_, PySem.W.mg_of X G cLt⟩, ⟨_, PySem.W.mg_of X G cM⟩, ⟨_, PySem.W.mg_of X G cS⟩⟩
  have FN := fun_mk (st := sIsName) xlN xcN xkN
  have DN : Def K mg "is_name" sIsName ["thing"] fN _ := ⟨FN, PySem.W.mg_of X G xaN, FN.binds (ps := ["thing"]) fun _ _ _ _ _ _ us hl => match us, hl with | [_], _ => rfl⟩
  have FU := fun_mk (st := sUnlike) xlU xcU xkU
  have DU : Def K mg "are_unlike_names" sUnlike ["things"] fU _ := ⟨FU, PySem.W.mg_of X G xaU, FU.binds (ps := ["things"]) fun _ _ _ _ _ _ us hl => match us, hl with | [_], _ => rfl⟩
  have FP := fun_mk (st := sPair) xlP xcP xkP
  have DP : Def K mg "is_pair_with_values" sPair ["thing"] fP _ := ⟨FP, PySem.W.mg_of X G xaP, FP.binds (ps := ["thing"]) fun _ _ _ _ _ _ us hl => match us, hl with | [_], _ => rfl⟩
  have FF := fun_mk (st := sFields) xlF xcF xkF
  have DF : Def K mg "are_fields" sFields ["things"] fF _ := ⟨FF, PySem.W.mg_of X G xaF, FF.binds (ps := ["things"]) fun _ _ _ _ _ _ us hl => match us, hl with | [_], _ => rfl⟩
  have FCt := fun_mk (st := sCount) xlCt xcCt xkCt
  have DCt : Def K mg "count_states" sCount ["fields"] fCt _ := ⟨FCt, PySem.W.mg_of X G xaCt, FCt.binds (ps := ["fields"]) fun _ _ _ _ _ _ us hl => match us, hl with | [_], _ => rfl⟩
  have FA := fun_mk (st := sAreKinds) xlA xcA xkA
  have DA : Def K mg "are_kinds" sAreKinds ["things"] fA _ := ⟨FA, PySem.W.mg_of X G xaA, FA.binds (ps := ["things"]) fun _ _ _ _ _ _ us hl => match us, hl with | [_], _ => rfl⟩
  have Fp : FunL K "placed_by_owners" "placed_by_owners" sPlaced fp _ c := ⟨⟨ocp, odp, kVp, dcp, pmp, anp, ctp, slp, rfl, xlp, xcp⟩, xkp⟩
  have bp := Fp.fn.binds (ps := ["kinds"]) fun _ _ _ _ _ _ us hl => match us, hl with | [_], _ => rfl
  have Fm := fun_mk (st := sMixed) xlm xcm xkm
  have Dm : Def K mg "_law_mixed" sMixed ["_law_cell", "_law_k"] fm _ := ⟨Fm, PySem.W.mg_of X G xam, Fm.binds (ps := ["_law_cell", "_law_k"]) fun _ _ _ _ _ _ us hl => match us, hl with | [_, _], _ => rfl⟩
  have Fd := fun_mk (st := sDigits) xld xcd xkd
  have Dd : Def K mg "_law_digits" sDigits ["_law_cell"] fd _ := ⟨Fd, PySem.W.mg_of X G xad, Fd.binds (ps := ["_law_cell"]) fun _ _ _ _ _ _ us hl => match us, hl with | [_], _ => rfl⟩
  have Fn := fun_mk (st := sNext) xln xcn xkn
  have Dn : Def K mg "_law_next" sNext ["_law_source", "_law_many"] fn _ := ⟨Fn, PySem.W.mg_of X G xan, Fn.binds (ps := ["_law_source", "_law_many"]) fun _ _ _ _ _ _ us hl => match us, hl with | [_, _], _ => rfl⟩
  have Fg := fun_mk (st := sSign) xlg xcg xkg
  have Dg : Def K mg "_law_sign" sSign ["_law_sign_here", "_law_turn"] fg _ := ⟨Fg, PySem.W.mg_of X G xag, Fg.binds (ps := ["_law_sign_here", "_law_turn"]) fun _ _ _ _ _ _ us hl => match us, hl with | [_, _], _ => rfl⟩
  have Fa := fun_mk (st := sNames) xla xca xka
  have Da : Def K mg "_law_names" sNames ["_law_source", "_law_many"] fa _ := ⟨Fa, PySem.W.mg_of X G xaa, Fa.binds (ps := ["_law_source", "_law_many"]) fun _ _ _ _ _ _ us hl => match us, hl with | [_, _], _ => rfl⟩
  have Fl := fun_mk (st := sLFields) xll xcl xkl
  have Dl : Def K mg "_law_fields" sLFields ["_law_source"] fl _ := ⟨Fl, PySem.W.mg_of X G xal, Fl.binds (ps := ["_law_source"]) fun _ _ _ _ _ _ us hl => match us, hl with | [_], _ => rfl⟩
  have FS := fun_mk (st := sSpecs) xlS xcS xkS
  have DS : Def K mg "_law_specs" sSpecs ["_law_source"] fS _ := ⟨FS, PySem.W.mg_of X G xaS, FS.binds (ps := ["_law_source"]) fun _ _ _ _ _ _ us hl => match us, hl with | [_], _ => rfl⟩
  have FTu := fun_mk (st := sTurned) xlTu xcTu xkTu
  have DTu : Def K mg "_law_turned" sTurned ["_law_source", "_law_things"] fTu _ := ⟨FTu, PySem.W.mg_of X G xaTu, FTu.binds (ps := ["_law_source", "_law_things"]) fun _ _ _ _ _ _ us hl => match us, hl with | [_, _], _ => rfl⟩
  have FM := fun_mk (st := sMade) xlM xcM xkM
  have DM : Def K mg "_law_made" sMade ["_law_specs_here"] fM _ := ⟨FM, PySem.W.mg_of X G xaM, FM.binds (ps := ["_law_specs_here"]) fun _ _ _ _ _ _ us hl => match us, hl with | [_], _ => rfl⟩
  have FW := fun_mk (st := sWord) xlW xcW xkW
  have DW : Def K mg "_law_word" sWord ["_law_asked"] fW _ := ⟨FW, PySem.W.mg_of X G xaW, FW.binds (ps := ["_law_asked"]) fun _ _ _ _ _ _ us hl => match us, hl with | [_], _ => rfl⟩
  have FR := fun_mk (st := sRight) xlR xcR xkR
  have DR : Def K mg "_law_right" sRight ["_law_kinds", "_law_specs_here", "_law_name"] fR _ := ⟨FR, PySem.W.mg_of X G xaR, FR.binds (ps := ["_law_kinds", "_law_specs_here", "_law_name"]) fun _ _ _ _ _ _ us hl => match us, hl with | [_, _, _], _ => rfl⟩
  have FL : FunL K "law" "law" sLaw _ _ cL := ⟨⟨ocL, odL, kVL, dcL, pmL, anL, ctL, slL, rfl, xlL, xcL⟩, xkL⟩
  have FIk := fun_mk (st := sInitKs) xlIk xcIk xkIk
  have bIk := FIk.binds (ps := ["self", "kinds"]) fun _ _ _ _ _ _ us hl => match us, hl with | [_, _], _ => rfl
  have FOr := fun_mk (st := sOrder) xlOr xcOr xkOr
  have bOr := FOr.binds (ps := ["self"]) fun _ _ _ _ _ _ us hl => match us, hl with | [_], _ => rfl
  have FOf := fun_mk (st := sOf) xlOf xcOf xkOf
  have bOf := FOf.binds (ps := ["self", "name"]) fun _ _ _ _ _ _ us hl => match us, hl with | [_, _], _ => rfl
  have FOw := fun_mk (st := sOwned) xlOw xcOw xkOw
  have bOw := FOw.binds (ps := ["self", "name"]) fun _ _ _ _ _ _ us hl => match us, hl with | [_, _], _ => rfl
  have FI : FunD K "__init__" "Kind.__init__" sInit (.ref TD) fI _ := ⟨⟨ocI, odI, kVI, dcI, pmI, anI, cdI, ctI, slI, rfl, lI, cI⟩⟩
  have KC : KCls K mg C fI := ⟨⟨pg, hd, po, sa⟩, nN, nF, nO, PySem.W.mg_of X G aC, ⟨mk, aI, iI, kc⟩⟩
  have KS : KsCls K mg CK fIk fOr fOf fOw := ⟨⟨gpg, ghd, gpo, gsa⟩, gnB, PySem.W.mg_of X G aCK, ⟨gmk, xaIk, xiIk, gkc⟩, ⟨xaOr, xiOr, xkOr⟩, ⟨xaOf, xiOf, xkOf⟩, ⟨xaOw, xiOw, xkOw⟩⟩
  have bK : Binds K (PySem.W.fnOf "__init__" "Kind.__init__" (defArgs sInit) (defBody sInit) (defScope sInit) (.ref TD) kVI dcI pmI anI cdI ctI) ["self", "name", "fields", "owner"] [] := by
    intro s us hK hl
    match us, hl with
    | [a, n, f, o], _ => exact PySem.W.binds_K hK rfl lT rfl (by rfl) (by rfl)
    | [], hl => cases hl
    | [_], hl => cases hl
    | [_, _], hl => cases hl
    | [_, _, _], hl => cases hl
    | _ :: _ :: _ :: _ :: _ :: _, hl => simp at hl
  have rf : Refs K mg C1 CR CN C2 C3 := ⟨⟨PySem.W.mg_of X G a1, xex⟩, ⟨xex, xga, xgt, xcf, xob⟩, PySem.W.mg_of X G aR, PySem.W.mg_of X G aN, PySem.W.mg_of X G a2, PySem.W.mg_of X G a3, PySem.W.mg_none_of X G zVE, xem, xon, xva, xot⟩
  subst hts
  refine ⟨PySem.W.fnOf "law" "law" (defArgs sLaw) (defBody sLaw) (defScope sLaw) .none kVL dcL pmL anL (.ref cL) ctL, fun s v => .of_eq rfl, fun T hT => ?_, Pt, Pl, .head _, .tail _ (.head _), hne, fun base _ _ bl => (ok_law7 FL ⟨T, DN, DU, DP, DF, DCt, FI, KC, ⟨ha, hn, htk, hm, hki⟩, bK, DA, Fp, PySem.W.mg_of X G xap, bp, ⟨hcd, bl⟩, FIk, bIk, FOf, bOf, FOw, bOw, KS, Dm, Dd, Dn, Dg, Da, Dl, DS, DTu, DM, DW, DR, ⟨hcdL, bl⟩, rf⟩).calm calmM⟩
  rcases List.mem_cons.mp hT with rfl | hT
  · exact ⟨hout, c, hcd⟩
  · rw [List.mem_singleton.mp hT]
    exact ⟨houtL, cL, hcdL⟩
theorem walk {l : PySem.W.OpenLaw} {q : Program} {loose : List Str} {XP : (Str → Option Value) → Heap → Prop} {YP : World → Heap → Prop} {d : DefRec} {K : Params → PySem.W.Frag} {ts : List Addr} (hn : l.most = some 63) (hdf : d.params.defaults = [])
    (hY : ∀ (w : World) (h : Heap), YP w h → (K w.params).In h ∧ ∀ T ∈ ts, h.get? T = some (PySem.W.tabObj #[]))
    (F : ∀ (w : World) (mg : Str → Option Value) (fa : Addr) (h : Heap), (K w.params).In h → h.Ns mainGlobals mg → mg d.name = some (.ref fa) →
      ∃ fd : FuncData, (∀ (s : Shared) (u : Value), BindsTo s fd ⟨[u], []⟩ [("_law_script", u)]) ∧ (∀ T ∈ ts, (K w.params).lookup T = none ∧ ∃ c, PySem.W.codeHdIn (K w.params) c T = true) ∧ ∃ Pt Pl : Addr, Pt ∈ ts ∧ Pl ∈ ts ∧ Pl ≠ Pt ∧ ∀ base : Heap, (K w.params).In base → base.Ns mainGlobals mg → BltAt mg base → FnOk l.prog w (K w.params) mg base CX0 8 fa fd ["_law_script"] (spLaw7 (K w.params) Pt Pl)) :
    PySem.W.WalkO q loose XP YP l.row.toRowW d [] (fun f vs => PySem.call f vs) := by
  refine Att.attach_call hn hdf fun w s₀ s₁ mg mb fa o pm cd doc a vs ns G Y ho hd hcd hmg hobj hints hlen hg => ?_
  obtain ⟨KX, hT⟩ := hY w _ Y
  obtain ⟨fd, hb, hall, Pt, Pl, m1, m2, hne, hF⟩ := F w mg fa _ KX G.T.g hmg
  exact law_callTs KX G.T.g G.T.b G.T.builtins G.T.nolimit hg (blt_of G.T) hT (fun T h => (hall T h).1) (fun T h => (hall T h).2) hobj hints (Nat.le_trans hlen (by decide)) ⟨rfl, by decide, by decide⟩ hF hb (fun H hO hS => ⟨a, ns, rfl, hS, hlen, .inl (hO.1 Pt m1), ⟨⟨#[], hO.1 Pl m2, trivial, fun _ _ e => nomatch e⟩⟩, hne, fun _ => rfl⟩) fun _ _ _ z => z
end L2.W
-- MOD K7R
theorem PySem.W.Fast.tw13304533579528055441 : True := trivial
theorem PySem.W.Fast.tw13320251114935800321 : True := trivial
theorem PySem.W.Fast.tw8260556463794393468 : True := trivial
theorem PySem.W.Fast.tw4060703094362672917 : True := trivial
theorem PySem.W.Fast.tw4464497982445389522 : True := trivial
theorem PySem.W.Fast.tw11346587787117426358 : True := trivial
theorem PySem.W.Fast.tw16836640558505024010 : True := trivial
theorem PySem.W.Fast.tw6737848750335660348 : True := trivial
theorem PySem.W.Fast.tw13131189157292767833 : True := trivial
theorem PySem.W.Fast.tw6005755006192697914 : True := trivial
theorem PySem.W.Fast.tw11687693738053835020 : True := trivial
theorem PySem.W.Fast.tw12421180706843240518 : True := trivial
theorem PySem.W.Fast.tw7510987326189862764 : True := trivial
theorem PySem.W.Fast.tw3915650215466352869 : True := trivial
theorem PySem.W.Fast.tw11990947377162573348 : True := trivial
theorem PySem.W.Fast.tw2405589448320149285 : True := trivial
theorem PySem.W.Fast.tw17188689310084422880 : True := trivial
theorem PySem.W.Fast.tw18261873487617634218 : True := trivial
theorem PySem.W.Fast.tw16954703503386055049 : True := trivial
theorem PySem.W.Fast.tw16084662987526617883 : True := trivial
theorem PySem.W.Fast.tw1683374951187857977 : True := trivial
theorem PySem.W.Fast.tw11019643633306467223 : True := trivial
theorem PySem.W.Fast.tw10363098621390857222 : True := trivial
theorem PySem.W.Fast.tw17184156593173379375 : True := trivial
theorem PySem.W.Fast.tw13680509650810997565 : True := trivial
theorem PySem.W.Fast.tw3324894379219770046 : True := trivial
theorem PySem.W.Fast.tw1508325292630635608 : True := trivial
theorem PySem.W.Fast.tw12808064195251556623 : True := trivial
theorem PySem.W.Fast.tw2440784235699977580 : True := trivial
theorem PySem.W.Fast.tw13268883490698695814 : True := trivial
theorem PySem.W.Fast.tw12422580382890277655 : True := trivial
theorem PySem.W.Fast.tw10306997882792461651 : True := trivial
theorem PySem.W.Fast.tw16701349279120196642 : True := trivial
theorem PySem.W.Fast.tw15064890793125677803 : True := trivial
theorem PySem.W.Fast.tw6343374800423561605 : True := trivial
theorem PySem.W.Fast.tw977240294297870616 : True := trivial
theorem PySem.W.Fast.tw12979505886786094488 : True := trivial
theorem PySem.W.Fast.tw9090243032570156178 : True := trivial
theorem PySem.W.Fast.tw6251976522917001526 : True := trivial
theorem PySem.W.Fast.tw17086202708059833432 : True := trivial
theorem PySem.W.Fast.tw8613541150622297271 : True := trivial
theorem PySem.W.Fast.tw4129426169015411149 : True := trivial
theorem PySem.W.Fast.tw8007929545894928657 : True := trivial
theorem PySem.W.Fast.tw4009677626266941047 : True := trivial
theorem PySem.W.Fast.tw15863530352328072137 : True := trivial
theorem PySem.W.Fast.tw6152716392724987695 : True := trivial
theorem PySem.W.Fast.tw5026683199099565324 : True := trivial
theorem PySem.W.Fast.tw13331892894942638093 : True := trivial
theorem PySem.W.Fast.tw10666995966701927791 : True := trivial
theorem PySem.W.Fast.tw13410780125655826916 : True := trivial
theorem PySem.W.Fast.tw1475147686509075219 : True := trivial
theorem PySem.W.Fast.tw6590172827850487017 : True := trivial
theorem PySem.W.Fast.tw1375550627904837741 : True := trivial
theorem PySem.W.Fast.tw137241151223669691 : True := trivial
theorem PySem.W.Fast.tw8449062095525773201 : True := trivial
theorem PySem.W.Fast.tw10293318926958126956 : True := trivial
theorem PySem.W.Fast.tw11407136042917107547 : True := trivial
theorem PySem.W.Fast.tw5449243100167518987 : True := trivial
theorem PySem.W.Fast.tw12532552056557481228 : True := trivial
theorem PySem.W.Fast.tw12283345871213729501 : True := trivial
theorem PySem.W.Fast.tw3238479179687973826 : True := trivial
theorem PySem.W.Fast.tw16429606153883096266 : True := trivial
open PySem PySem.W PyProof.Rows
set_option maxRecDepth 100000 in
set_option maxHeartbeats 0 in
theorem PySem.Challenge.cw_cometorest_k07_kinds_by_name_holds : PySem.Challenge.rw_cometorest_k07_kinds_by_name.Holds := by
  w_on; o_law; k_head; (case hw => w_witness2)
  k_fill
  refine L2.W.walk (l := PySem.Challenge.rw_cometorest_k07_kinds_by_name) rfl rfl (fun w h Y => ⟨PySem.W.km_in_of Y, PySem.W.km_tabs_of Y⟩) ?F
  case F =>
    intro w mg fa h KX G hmg
    refine' L2.W.all_mk KX G hmg ?aCK ?xaN ?xlN ?xcN ?xkN ?xaU ?xlU ?xcU ?xkU ?xaP ?xlP ?xcP ?xkP ?xaF ?xlF ?xcF ?xkF ?xaCt ?xlCt ?xcCt ?xkCt ?xaA ?xlA ?xcA ?xkA ?xap ?xlp ?xcp ?xkp ?xam ?xlm ?xcm ?xkm ?xad ?xld ?xcd ?xkd ?xan ?xln ?xcn ?xkn ?xag ?xlg ?xcg ?xkg ?xaa ?xla ?xca ?xka ?xal ?xll ?xcl ?xkl ?xaS ?xlS ?xcS ?xkS ?xaTu ?xlTu ?xcTu ?xkTu ?xaM ?xlM ?xcM ?xkM ?xaW ?xlW ?xcW ?xkW ?xaR ?xlR ?xcR ?xkR ?xaL ?xlL ?xcL ?xkL ?xaIk ?xiIk ?xlIk ?xcIk ?xkIk ?xaOr ?xiOr ?xlOr ?xcOr ?xkOr ?xaOf ?xiOf ?xlOf ?xcOf ?xkOf ?xaOw ?xiOw ?xlOw ?xcOw ?xkOw ?aC ?aI ?iI ?lI ?cI ?lT ?pg ?hd ?po ?sa ?mk ?kc ?nN ?nF ?nO ?ha ?hn ?htk ?hm ?hki ?gpg ?ghd ?gpo ?gsa ?gmk ?gkc ?gnB ?hts ?hcd ?hout ?hcdL ?houtL ?hne ?aR ?aN ?a1 ?a2 ?a3 ?zVE ?xex ?xga ?xgt ?xcf ?xob ?xem ?xon ?xva ?xot ?cLt ?cM ?cS ?z_isinstance ?z_len ?z_all ?z_set ?z_range ?z_str ?z_list ?z_tuple ?z_zip ?z_dict ?z_min ?z_sorted ?z_enumerate ?z_int
    (case aCK => k_is)
    (case xaN => k_is)
    (case xlN => k_is)
    (case xcN => first | k_is | rfl | kernel_rfl | decide +kernel)
    (case xkN => k_is)
    (case xaU => k_is)
    (case xlU => k_is)
    (case xcU => first | k_is | rfl | kernel_rfl | decide +kernel)
    (case xkU => k_is)
    (case xaP => k_is)
    (case xlP => k_is)
    (case xcP => first | k_is | rfl | kernel_rfl | decide +kernel)
    (case xkP => k_is)
    (case xaF => k_is)
    (case xlF => k_is)
    (case xcF => first | k_is | rfl | kernel_rfl | decide +kernel)
    (case xkF => k_is)
    (case xaCt => k_is)
    (case xlCt => k_is)
    (case xcCt => k_is)
    (case xkCt => k_is)
    (case xaA => k_is)
    (case xlA => k_is)
    (case xcA => first | k_is | rfl | kernel_rfl | decide +kernel)
    (case xkA => k_is)
    (case xap => k_is)
    (case xlp => k_is)
    (case xcp => first | k_is | rfl | kernel_rfl | decide +kernel)
    (case xkp => k_is)
    (case xam => k_is)
    (case xlm => k_is)
    (case xcm => first | k_is | rfl | kernel_rfl | decide +kernel)
    (case xkm => k_is)
    (case xad => k_is)
    (case xld => k_is)
    (case xcd => first | k_is | rfl | kernel_rfl | decide +kernel)
    (case xkd => k_is)
    (case xan => k_is)
    (case xln => k_is)
    (case xcn => first | k_is | rfl | kernel_rfl | decide +kernel)
    (case xkn => k_is)
    (case xag => k_is)
    (case xlg => k_is)
    (case xcg => first | k_is | rfl | kernel_rfl | decide +kernel)
    (case xkg => k_is)
    (case xaa => k_is)
    (case xla => k_is)
    (case xca => first | k_is | rfl | kernel_rfl | decide +kernel)
    (case xka => k_is)
    (case xal => k_is)
    (case xll => k_is)
    (case xcl => first | k_is | rfl | kernel_rfl | decide +kernel)
    (case xkl => k_is)
    (case xaS => k_is)
    (case xlS => k_is)
    (case xcS => first | k_is | rfl | kernel_rfl | decide +kernel)
    (case xkS => k_is)
    (case xaTu => k_is)
    (case xlTu => k_is)
    (case xcTu => k_is)
    (case xkTu => k_is)
    (case xaM => k_is)
    (case xlM => k_is)
    (case xcM => first | k_is | rfl | kernel_rfl | decide +kernel)
    (case xkM => k_is)
    (case xaW => k_is)
    (case xlW => k_is)
    (case xcW => first | k_is | rfl | kernel_rfl | decide +kernel)
    (case xkW => k_is)
    (case xaR => k_is)
    (case xlR => k_is)
    (case xcR => first | k_is | rfl | kernel_rfl | decide +kernel)
    (case xkR => k_is)
    (case xaL => k_is)
    (case xlL => k_is)
    (case xcL => first | k_is | rfl | kernel_rfl | decide +kernel)
    (case xkL => k_is)
    (case xaIk => k_is)
    (case xiIk => k_is)
    (case xlIk => k_is)
    (case xcIk => k_is)
    (case xkIk => k_is)
    (case xaOr => k_is)
    (case xiOr => k_is)
    (case xlOr => k_is)
    (case xcOr => k_is)
    (case xkOr => k_is)
    (case xaOf => k_is)
    (case xiOf => k_is)
    (case xlOf => k_is)
    (case xcOf => k_is)
    (case xkOf => k_is)
    (case xaOw => k_is)
    (case xiOw => k_is)
    (case xlOw => k_is)
    (case xcOw => k_is)
    (case xkOw => k_is)
    (case aC => k_is)
    (case aI => k_is)
    (case iI => k_is)
    (case lI => k_is)
    (case cI => k_is)
    (case lT => k_is)
    (case pg => k_is)
    (case hd => k_is)
    (case po => k_is)
    (case sa => k_is)
    (case mk => k_is)
    (case kc => k_is)
    (case nN => k_is)
    (case nF => k_is)
    (case nO => k_is)
    (case ha => k_is)
    (case hn => k_is)
    (case htk => k_is)
    (case hm => k_is)
    (case hki => first | k_is | rfl | kernel_rfl | decide +kernel)
    (case gpg => k_is)
    (case ghd => k_is)
    (case gpo => k_is)
    (case gsa => k_is)
    (case gmk => k_is)
    (case gkc => k_is)
    (case gnB => k_is)
    (case hts => rfl)
    (case hcd => first | k_is | rfl | kernel_rfl | decide +kernel)
    (case hout => first | k_is | rfl | kernel_rfl | decide +kernel)
    (case hcdL => first | k_is | rfl | kernel_rfl | decide +kernel)
    (case houtL => first | k_is | rfl | kernel_rfl | decide +kernel)
    (case hne => decide)
    (case aR => k_is)
    (case aN => k_is)
    (case a1 => k_is)
    (case a2 => k_is)
    (case a3 => k_is)
    (case zVE => k_is)
    (case xex => first | k_is | rfl | kernel_rfl | decide +kernel)
    (case xga => first | k_is | rfl | kernel_rfl | decide +kernel)
    (case xgt => first | k_is | rfl | kernel_rfl | decide +kernel)
    (case xcf => first | k_is | rfl | kernel_rfl | decide +kernel)
    (case xob => first | k_is | rfl | kernel_rfl | decide +kernel)
    (case xem => first | k_is | rfl | kernel_rfl | decide +kernel)
    (case xon => first | k_is | rfl | kernel_rfl | decide +kernel)
    (case xva => first | k_is | rfl | kernel_rfl | decide +kernel)
    (case xot => first | k_is | rfl | kernel_rfl | decide +kernel)
    (case cLt => k_is)
    (case cM => k_is)
    (case cS => k_is)
    (case z_isinstance => k_is)
    (case z_len => k_is)
    (case z_all => k_is)
    (case z_set => k_is)
    (case z_range => k_is)
    (case z_str => k_is)
    (case z_list => k_is)
    (case z_tuple => k_is)
    (case z_zip => k_is)
    (case z_dict => k_is)
    (case z_min => k_is)
    (case z_sorted => k_is)
    (case z_enumerate => k_is)
    (case z_int => k_is)

