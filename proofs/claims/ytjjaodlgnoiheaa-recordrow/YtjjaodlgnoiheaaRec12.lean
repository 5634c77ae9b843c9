/-
  Layer 8 (record): what is read off a reader (no function of the program in sight); two blocks that are turned.
-/
import Derived.Test.YtjjaodlgnoiheaaRec3
namespace Go.Proofs.Ytjjaodlgnoiheaa
open Go.RowKit
set_option linter.unusedVariables false

/-- All but the blocks R and M is as it was; new blocks may lie behind. -/
structure Ch2 (R M : Nat) (w w' : World) : Prop where
  below : Below R w w'
  past : ∀ g, R < g → g ≠ M → g < w.heap.size → w'.heap[g]? = w.heap[g]?
theorem Ch2.size {R M : Nat} {w w' : World} (h : Ch2 R M w w') : w.heap.size ≤ w'.heap.size := h.below.size
theorem Ch2.refl (R M : Nat) (w : World) : Ch2 R M w w := ⟨Below.refl _ _, fun _ _ _ _ => rfl⟩
theorem Ch2.trans {R M : Nat} {a b c : World} (h : Ch2 R M a b) (k : Ch2 R M b c) : Ch2 R M a c :=
  ⟨h.below.trans k.below, fun g h1 h2 h3 => (k.past g h1 h2 (Nat.lt_of_lt_of_le h3 h.size)).trans (h.past g h1 h2 h3)⟩
theorem Ch.two {R M : Nat} {w w' : World} (h : Ch R w w') : Ch2 R M w w' := ⟨h.below, fun g h1 _ h3 => h.past g h1 h3⟩
theorem Ch2.set {R M : Nat} {a w : World} (h : Ch2 R M a w) (hM : R ≤ M) (o : Nat) (u : Value) : Ch2 R M a (w.setCell ⟨M, o, none⟩ u) :=
  ⟨h.below.setCell hM u, fun g h1 h2 h3 => (Below.heap_setCell w _ u g (by simp only [ne_eq]; omega)).trans (h.past g h1 h2 h3)⟩
theorem Ch2.block {R M : Nat} {w w' : World} (h : Ch2 R M w w') {g : Nat} (h1 : g ≠ R) (h2 : g ≠ M) (hs : g < w.heap.size) : w'.heap[g]? = w.heap[g]? := by
  rcases Nat.lt_or_gt_of_ne h1 with k | k
  · exact h.below.block g k
  · exact h.past g k h2 hs
/-- If the second block was not there. -/
theorem Ch2.one {R M : Nat} {a w w' : World} (h : Ch R a w) (k : Ch2 R M w w') (hM : a.heap.size ≤ M) : Ch R a w' :=
  ⟨h.below.trans k.below, fun g h1 h2 => (k.past g h1 (by omega) (Nat.lt_of_lt_of_le h2 h.size)).trans (h.past g h1 h2)⟩
theorem Blk.ch2 {R M : Nat} {w w' : World} {b : Nat} {cs : List Value} (h : Blk w b cs) (k : Ch2 R M w w') (h1 : b ≠ R) (h2 : b ≠ M) : Blk w' b cs := by
  have e := k.block h1 h2 h.lt
  exact ⟨Nat.lt_of_lt_of_le h.lt k.size, fun o ho => (World.cell?_of_block (w := w) (a := ⟨b, o, none⟩) e).trans (h.all o ho), fun o => (World.frozen?_of_block (w := w) (a := ⟨b, o, none⟩) e).trans (h.froz o)⟩

/-! what is read -/
def othS (x : Int) (s : St) : St := if x = 0 then failS s 7 else s
def bitB (m : Int) (k : Nat) : Bool := decide (m / 2 ^ k % 2 = 1)
def stepA (b : Bool) (s : St) : Int := if b then intA s else 0
def stepS (b : Bool) (s : St) : St := if b then othS (intA s) (intS s) else s
/-- How the reader stands behind k of an Update's numbers. -/
def difS (m : Int) (s : St) : Nat → St
  | 0 => s
  | k + 1 => stepS (bitB m k) (difS m s k)
def difA (m : Int) (s : St) (k : Nat) : Int := stepA (bitB m k) (difS m s k)
def angA (b : Bool) (s : St) : Int := if b then uintA 65535 s else 0
def angS (b : Bool) (s : St) : St := if b then othS (uintA 65535 s) (uintS 65535 s) else s
def badM (m : Int) : Bool := decide (m = 0 ∨ 127 < m)
/-- How the reader stands behind an Update's byte. -/
def mskS (s : St) : St := if badM (byteA s) then failS (byteS s) 7 else byteS s
def updT (s : St) (r : Rc) : Rc := ⟨r.k, r.i, difA (byteA s) (mskS s) 0, difA (byteA s) (mskS s) 1, difA (byteA s) (mskS s) 2, difA (byteA s) (mskS s) 3, difA (byteA s) (mskS s) 4, difA (byteA s) (mskS s) 5, angA (bitB (byteA s) 6) (difS (byteA s) (mskS s) 6)⟩
def updS (s : St) : St := angS (bitB (byteA s) 6) (difS (byteA s) (mskS s) 6)
def whoT (s : St) (r : Rc) : Rc := ⟨r.k, r.i, intA s, intA (intS s), intA (intS (intS s)), intA (vecS s), intA (intS (vecS s)), intA (intS (intS (vecS s))), uintA 65535 (vecS (vecS s))⟩
def whoS (s : St) : St := uintS 65535 (vecS (vecS s))
/-- Behind the Id and the Kind. -/
def hdS (s : St) (last : Int) : St := byteS (uintS (65534 - last) s)
def hdI (s : St) (last : Int) : Int := last + 1 + uintA (65534 - last) s
def hdK (s : St) (last : Int) : Int := byteA (uintS (65534 - last) s)
def takT (s : St) (last : Int) : Rc :=
  if last = 65535 then noRec else if 4 ≤ hdK s last then noRec else
  let r : Rc := ⟨hdK s last, hdI s last, 0, 0, 0, 0, 0, 0, 0⟩
  if hdK s last = 1 then updT (hdS s last) r else if hdK s last = 2 then r else whoT (hdS s last) r
def takS (s : St) (last : Int) : St :=
  if last = 65535 then failS s 10 else if 4 ≤ hdK s last then failS (hdS s last) 11 else
  if hdK s last = 1 then updS (hdS s last) else if hdK s last = 2 then hdS s last else whoS (hdS s last)
def lastB (last : Int) : Bool := decide (-1 ≤ last ∧ last ≤ 65535)
def redS (s : St) (last : Int) : St := if lastB last then takS s last else s
def redE (s : St) (last : Int) : Int := if lastB last then (takS s last).e else 3
def redT (s : St) (last : Int) : Rc := if lastB last then (if (takS s last).e = 0 then takT s last else noRec) else noRec

/-! where a reader has failed nothing is taken -/
theorem failS_e {s : St} (x : Int) (h : s.e ≠ 0) : failS s x = s := by unfold failS; rw [if_neg h]
theorem byteS_e {s : St} (h : s.e ≠ 0) : byteS s = s ∧ byteA s = 0 := by unfold byteS byteA; rw [if_neg h, if_neg h]; exact ⟨rfl, rfl⟩
theorem uintS_e {s : St} (m : Int) (h : s.e ≠ 0) : uintS m s = s ∧ uintA m s = 0 := by unfold uintS uintA; rw [if_neg h, if_neg h]; exact ⟨rfl, rfl⟩
theorem intS_e {s : St} (h : s.e ≠ 0) : intS s = s ∧ intA s = 0 := by
  have := uintS_e top64 h
  unfold intS intA; rw [this.1, this.2]; exact ⟨rfl, by decide⟩
theorem stepS_e {s : St} (b : Bool) (h : s.e ≠ 0) : stepS b s = s ∧ stepA b s = 0 := by
  have := intS_e h
  unfold stepS stepA othS
  rw [this.1, this.2]
  cases b
  · exact ⟨rfl, rfl⟩
  · simp [failS_e 7 h]
theorem difS_e {s : St} (m : Int) (h : s.e ≠ 0) : ∀ k, difS m s k = s
  | 0 => rfl
  | k + 1 => by show stepS _ _ = _; rw [difS_e m h k]; exact (stepS_e _ h).1
theorem difA_e {s : St} (m : Int) (k : Nat) (h : s.e ≠ 0) : difA m s k = 0 := by unfold difA; rw [difS_e m h]; exact (stepS_e _ h).2
theorem angS_e {s : St} (b : Bool) (h : s.e ≠ 0) : angS b s = s ∧ angA b s = 0 := by
  have := uintS_e 65535 h
  unfold angS angA othS
  rw [this.1, this.2]
  cases b
  · exact ⟨rfl, rfl⟩
  · simp [failS_e 7 h]
theorem mskS_bad {s : St} (h : badM (byteA s) = true) : (mskS s).e ≠ 0 := by
  unfold mskS; rw [if_pos h]
  unfold failS
  split
  · simp
  · assumption
/-- An Update's byte that is none: nothing behind it. -/
theorem upd_bad {s : St} {r : Rc} (h : badM (byteA s) = true) (hr : emptyB r = true) : updT s r = r ∧ updS s = failS (byteS s) 7 := by
  have he := mskS_bad h
  have hm : mskS s = failS (byteS s) 7 := by unfold mskS; rw [if_pos h]
  obtain ⟨⟨q0, q1, q2, q3, q4, q5⟩, q6⟩ := (emptyB_iff r).1 hr
  refine ⟨?_, ?_⟩
  · unfold updT
    rw [difA_e _ _ he, difA_e _ _ he, difA_e _ _ he, difA_e _ _ he, difA_e _ _ he, difA_e _ _ he, difS_e _ he, (angS_e _ he).2]
    cases r
    simp only at q0 q1 q2 q3 q4 q5 q6
    subst q0 q1 q2 q3 q4 q5 q6
    rfl
  · unfold updS
    rw [difS_e _ he, (angS_e _ he).1, hm]
end Go.Proofs.Ytjjaodlgnoiheaa
