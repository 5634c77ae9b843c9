/-
  Layer 8 (record): records and entities as numbers, their '==', what a record is checked by, its bytes, what is read off a reader, what is others (no function of the program in sight).
-/
import Derived.Test.YticcafmelijngaaRdr6
import Derived.Test.YticcafmelijngaaEq3
import Derived.Laws.EntriesVeiled
namespace Go.Proofs.Yticcafmelijngaa
open Go.RowKit
set_option linter.unusedVariables false

structure Rc where
  k : Int
  i : Int
  p0 : Int
  p1 : Int
  p2 : Int
  v0 : Int
  v1 : Int
  v2 : Int
  a : Int
structure En where
  i : Int
  p0 : Int
  p1 : Int
  p2 : Int
  v0 : Int
  v1 : Int
  v2 : Int
  a : Int
  g : Int
abbrev recC (r : Rc) : List Value := [.int .i64 r.k, .int .i64 r.i, .int .i64 r.p0, .int .i64 r.p1, .int .i64 r.p2, .int .i64 r.v0, .int .i64 r.v1, .int .i64 r.v2, .int .u16 r.a]
abbrev recV (r : Rc) : Value := .agg #[.int .i64 r.k, .int .i64 r.i, .int .i64 r.p0, .int .i64 r.p1, .int .i64 r.p2, .int .i64 r.v0, .int .i64 r.v1, .int .i64 r.v2, .int .u16 r.a]
abbrev entC (r : En) : List Value := [.int .i64 r.i, .int .i64 r.p0, .int .i64 r.p1, .int .i64 r.p2, .int .i64 r.v0, .int .i64 r.v1, .int .i64 r.v2, .int .u16 r.a, .int .u8 r.g]
abbrev entV (r : En) : Value := .agg #[.int .i64 r.i, .int .i64 r.p0, .int .i64 r.p1, .int .i64 r.p2, .int .i64 r.v0, .int .i64 r.v1, .int .i64 r.v2, .int .u16 r.a, .int .u8 r.g]
def noRec : Rc := ⟨0, 0, 0, 0, 0, 0, 0, 0, 0⟩
def noEnt : En := ⟨0, 0, 0, 0, 0, 0, 0, 0, 0⟩
def S64 (x : Int) : Prop := -9223372036854775808 ≤ x ∧ x ≤ 9223372036854775807
structure Rc.ok (r : Rc) : Prop where
  k : S64 r.k
  i : S64 r.i
  p0 : S64 r.p0
  p1 : S64 r.p1
  p2 : S64 r.p2
  v0 : S64 r.v0
  v1 : S64 r.v1
  v2 : S64 r.v2
  a : 0 ≤ r.a ∧ r.a ≤ 65535
structure En.ok (r : En) : Prop where
  i : S64 r.i
  p0 : S64 r.p0
  p1 : S64 r.p1
  p2 : S64 r.p2
  v0 : S64 r.v0
  v1 : S64 r.v1
  v2 : S64 r.v2
  a : 0 ≤ r.a ∧ r.a ≤ 65535
  g : 0 ≤ r.g ∧ r.g ≤ 255
/-! '==' -/
def recB (r s : Rc) : Bool := r.k == s.k && (r.i == s.i && ((r.p0 == s.p0 && (r.p1 == s.p1 && r.p2 == s.p2)) && ((r.v0 == s.v0 && (r.v1 == s.v1 && r.v2 == s.v2)) && r.a == s.a)))
def entB (r s : En) : Bool := r.i == s.i && ((r.p0 == s.p0 && (r.p1 == s.p1 && r.p2 == s.p2)) && ((r.v0 == s.v0 && (r.v1 == s.v1 && r.v2 == s.v2)) && (r.a == s.a && r.g == s.g)))
theorem recB_iff (r s : Rc) : recB r s = true ↔ r = s := by
  cases r; cases s
  simp only [recB, Bool.and_eq_true, beq_iff_eq, Rc.mk.injEq]
  constructor
  · rintro ⟨h0, h1, ⟨h2, h3, h4⟩, ⟨h5, h6, h7⟩, h8⟩; exact ⟨h0, h1, h2, h3, h4, h5, h6, h7, h8⟩
  · rintro ⟨h0, h1, h2, h3, h4, h5, h6, h7, h8⟩; exact ⟨h0, h1, ⟨h2, h3, h4⟩, ⟨h5, h6, h7⟩, h8⟩
theorem entB_iff (r s : En) : entB r s = true ↔ r = s := by
  cases r; cases s
  simp only [entB, Bool.and_eq_true, beq_iff_eq, En.mk.injEq]
  constructor
  · rintro ⟨h1, ⟨h2, h3, h4⟩, ⟨h5, h6, h7⟩, h8, h9⟩; exact ⟨h1, h2, h3, h4, h5, h6, h7, h8, h9⟩
  · rintro ⟨h1, h2, h3, h4, h5, h6, h7, h8, h9⟩; exact ⟨h1, ⟨h2, h3, h4⟩, ⟨h5, h6, h7⟩, h8, h9⟩
theorem recB_same (r : Rc) : recB r r = true := (recB_iff r r).2 rfl
theorem entB_same (r : En) : entB r r = true := (entB_iff r r).2 rfl
theorem recB_no {r s : Rc} (h : r ≠ s) : recB r s = false := by
  cases e : recB r s
  · rfl
  · exact absurd ((recB_iff r s).1 e) h
theorem entB_no {r s : En} (h : r ≠ s) : entB r s = false := by
  cases e : entB r s
  · rfl
  · exact absurd ((entB_iff r s).1 e) h
theorem eq3_at (d : Nat) (w : World) (a0 a1 a2 b0 b1 b2 : Int) :
    (Op.equalIn (d + 2) 22 (.agg #[.int .i64 a0, .int .i64 a1, .int .i64 a2]) (.agg #[.int .i64 b0, .int .i64 b1, .int .i64 b2])).run Try.prog w = .ok (a0 == b0 && (a1 == b1 && a2 == b2)) w := by
  have hu := Try.underlying2
  obtain ⟨i, hi⟩ := info_of_underlying hu
  rw [run_equalIn_array w (d + 1) _ _ Try.underlying22 hi, cells_e3]
  have r3 : List.range 3 = [0, 1, 2] := rfl
  have e : ∀ a b : Int, (Op.equalIn (d + 1) 2 (.int .i64 a) (.int .i64 b)).run Try.prog w = .ok (a == b) w := fun a b => run_equalIn_int w d _ _ _ a b hu
  rw [r3]
  simp only [Op.eqItems, Sem.run_bind]
  simp [part, isAgg, run_underlying hu, e, go_sem]
  by_cases h0 : a0 = b0
  · by_cases h1 : a1 = b1
    · by_cases h2 : a2 = b2 <;> simp [h0, h1, h2]
    · simp [h0, h1]
  · simp [h0]
theorem eq6_run (w : World) (a0 a1 a2 a3 a4 a5 b0 b1 b2 b3 b4 b5 : Int) :
    (Op.equalIn 10000 52 (.agg #[.int .i64 a0, .int .i64 a1, .int .i64 a2, .int .i64 a3, .int .i64 a4, .int .i64 a5]) (.agg #[.int .i64 b0, .int .i64 b1, .int .i64 b2, .int .i64 b3, .int .i64 b4, .int .i64 b5])).run Try.prog w
      = .ok (a0 == b0 && (a1 == b1 && (a2 == b2 && (a3 == b3 && (a4 == b4 && a5 == b5))))) w := by
  have hu := Try.underlying2
  obtain ⟨i, hi⟩ := info_of_underlying hu
  rw [show (10000 : Nat) = 9999 + 1 from rfl, run_equalIn_array w 9999 _ _ Try.underlying52 hi, cells_e3]
  have r6 : List.range 6 = [0, 1, 2, 3, 4, 5] := rfl
  have e : ∀ a b : Int, (Op.equalIn 9999 2 (.int .i64 a) (.int .i64 b)).run Try.prog w = .ok (a == b) w := fun a b => run_equalIn_int w 9998 _ _ _ a b hu
  rw [r6]
  simp only [Op.eqItems, Sem.run_bind]
  simp [part, isAgg, run_underlying hu, e, go_sem]
  by_cases h0 : a0 = b0
  · by_cases h1 : a1 = b1
    · by_cases h2 : a2 = b2
      · by_cases h3 : a3 = b3
        · by_cases h4 : a4 = b4
          · by_cases h5 : a5 = b5 <;> simp [h0, h1, h2, h3, h4, h5]
          · simp [h0, h1, h2, h3, h4]
        · simp [h0, h1, h2, h3]
      · simp [h0, h1, h2]
    · simp [h0, h1]
  · simp [h0]
theorem ok_bool {a b : Bool} {w : World} (h : a = b) : Result.ok a w = Result.ok b w := by rw [h]
set_option maxRecDepth 8000 in
theorem eqR_run (w : World) (k i p0 p1 p2 v0 v1 v2 a k' i' p0' p1' p2' v0' v1' v2' a' : Int) :
    (Op.equalIn 10000 29 (.agg #[.int .i64 k, .int .i64 i, .int .i64 p0, .int .i64 p1, .int .i64 p2, .int .i64 v0, .int .i64 v1, .int .i64 v2, .int .u16 a])
      (.agg #[.int .i64 k', .int .i64 i', .int .i64 p0', .int .i64 p1', .int .i64 p2', .int .i64 v0', .int .i64 v1', .int .i64 v2', .int .u16 a'])).run Try.prog w
      = .ok (recB ⟨k, i, p0, p1, p2, v0, v1, v2, a⟩ ⟨k', i', p0', p1', p2', v0', v1', v2', a'⟩) w := by
  have e3 : ∀ (w : World) (a0 a1 a2 b0 b1 b2 : Int), (Op.equalIn 9999 22 (.agg #[.int .i64 a0, .int .i64 a1, .int .i64 a2]) (.agg #[.int .i64 b0, .int .i64 b1, .int .i64 b2])).run Try.prog w = .ok (a0 == b0 && (a1 == b1 && a2 == b2)) w := eq3_at 9997
  simp [go_sem, e3]
  unfold recB
  repeat' split
  all_goals (refine ok_bool ?_; simp_all)
set_option maxRecDepth 8000 in
theorem eqE_run (w : World) (i p0 p1 p2 v0 v1 v2 a g i' p0' p1' p2' v0' v1' v2' a' g' : Int) :
    (Op.equalIn 10000 25 (.agg #[.int .i64 i, .int .i64 p0, .int .i64 p1, .int .i64 p2, .int .i64 v0, .int .i64 v1, .int .i64 v2, .int .u16 a, .int .u8 g])
      (.agg #[.int .i64 i', .int .i64 p0', .int .i64 p1', .int .i64 p2', .int .i64 v0', .int .i64 v1', .int .i64 v2', .int .u16 a', .int .u8 g'])).run Try.prog w
      = .ok (entB ⟨i, p0, p1, p2, v0, v1, v2, a, g⟩ ⟨i', p0', p1', p2', v0', v1', v2', a', g'⟩) w := by
  have e3 : ∀ (w : World) (a0 a1 a2 b0 b1 b2 : Int), (Op.equalIn 9999 22 (.agg #[.int .i64 a0, .int .i64 a1, .int .i64 a2]) (.agg #[.int .i64 b0, .int .i64 b1, .int .i64 b2])).run Try.prog w = .ok (a0 == b0 && (a1 == b1 && a2 == b2)) w := eq3_at 9997
  simp [go_sem, e3]
  unfold entB
  repeat' split
  all_goals (refine ok_bool ?_; simp_all)

/-! what a record is checked by -/
def emptyB (r : Rc) : Bool := recB r ⟨r.k, r.i, 0, 0, 0, 0, 0, 0, 0⟩
theorem emptyB_iff (r : Rc) : emptyB r = true ↔ (r.p0 = 0 ∧ r.p1 = 0 ∧ r.p2 = 0 ∧ r.v0 = 0 ∧ r.v1 = 0 ∧ r.v2 = 0) ∧ r.a = 0 := by
  unfold emptyB
  rw [recB_iff]
  cases r
  simp only [Rc.mk.injEq]
  constructor
  · rintro ⟨_, _, h2, h3, h4, h5, h6, h7, h8⟩; exact ⟨⟨h2, h3, h4, h5, h6, h7⟩, h8⟩
  · rintro ⟨⟨h2, h3, h4, h5, h6, h7⟩, h8⟩; exact ⟨trivial, trivial, h2, h3, h4, h5, h6, h7, h8⟩
def chk (r : Rc) : Int := if r.k < 0 ∨ 4 ≤ r.k then 11 else if r.i < 0 ∨ 65535 < r.i then 3 else if (r.k = 1 ∧ emptyB r = true) ∨ (r.k = 2 ∧ emptyB r = false) then 2 else 0
theorem chk_bd (r : Rc) : 0 ≤ chk r ∧ chk r ≤ 11 := by
  unfold chk
  repeat' split
  all_goals omega
theorem chk_ok {r : Rc} (h : chk r = 0) : (0 ≤ r.k ∧ r.k ≤ 3) ∧ (0 ≤ r.i ∧ r.i ≤ 65535) ∧ (r.k = 1 → emptyB r = false) ∧ (r.k = 2 → emptyB r = true) := by
  unfold chk at h
  by_cases h1 : r.k < 0 ∨ 4 ≤ r.k
  · rw [if_pos h1] at h; omega
  · rw [if_neg h1] at h
    by_cases h2 : r.i < 0 ∨ 65535 < r.i
    · rw [if_pos h2] at h; omega
    · rw [if_neg h2] at h
      by_cases h3 : (r.k = 1 ∧ emptyB r = true) ∨ (r.k = 2 ∧ emptyB r = false)
      · rw [if_pos h3] at h; omega
      · refine ⟨by omega, by omega, fun h4 => ?_, fun h4 => ?_⟩
        · cases e : emptyB r
          · rfl
          · exact absurd (Or.inl ⟨h4, e⟩) h3
        · cases e : emptyB r
          · exact absurd (Or.inr ⟨h4, e⟩) h3
          · rfl
theorem Blk.below {w w' : World} {b B : Nat} {cs : List Value} (h : Blk w b cs) (k : Below B w w') (hB : b < B) : Blk w' b cs :=
  ⟨Nat.lt_of_lt_of_le h.lt k.size, fun o ho => (k.cell (p := ⟨b, o, none⟩) hB).trans (h.all o ho), fun o => (k.frozen (p := ⟨b, o, none⟩) hB).trans (h.froz o)⟩
abbrev recA (r : Rc) : Array Value := #[.int .i64 r.k, .int .i64 r.i, .int .i64 r.p0, .int .i64 r.p1, .int .i64 r.p2, .int .i64 r.v0, .int .i64 r.v1, .int .i64 r.v2, .int .u16 r.a]
abbrev entA (r : En) : Array Value := #[.int .i64 r.i, .int .i64 r.p0, .int .i64 r.p1, .int .i64 r.p2, .int .i64 r.v0, .int .i64 r.v1, .int .i64 r.v2, .int .u16 r.a, .int .u8 r.g]
/-- A box that was just made. -/
theorem boxed {w W : World} {cs : Array Value} {t : TypeId} (h : w.alloc (.cells cs t) = W) : Blk W w.heap.size cs.toList ∧ Below w.heap.size w W ∧ W.heap.size = w.heap.size + 1 := by
  subst h
  exact ⟨Blk.new w _ _ rfl, (Below.refl _ _).alloc (Nat.le_refl _) _, by simp⟩
theorem Blk.drewN {w : World} {b : Nat} {cs : List Value} (h : Blk w b cs) (n : Nat) : Blk (w.drewN n) b cs := ⟨h.lt, h.all, h.froz⟩
end Go.Proofs.Yticcafmelijngaa
