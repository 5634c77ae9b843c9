/-
  Layer 1's stop, walked: the number, or the end that it is beyond.
-/
import Derived.Test.YtmclcoaicngodaaWide
namespace Go.Proofs.Ytmclcoaicngodaa
open Go.RowKit

theorem stop_in (X : Int) (hX : R64 X) (w : World) :
    Calls Try.prog 31 #[.agg #[.int .i64 (hi X), .int .u64 (lo X)]] w fun e w' => e = .returned (.int .i64 X) ∧ Gr w.heap.size w w' := by
  have e1 : wrap64 (lo X) = X := by unfold R64 at hX; rw [wrap64_eq]; unfold lo; omega
  obtain ⟨a1, a2⟩ := hi_bd hX.wide
  obtain ⟨c1, c2⟩ := lo_bd X
  go_enter Try.func31, Try.ntmps31
  go_wp2
  go_region_held3 (fun w' => w'.cell? ⟨w.heap.size, 0, none⟩ = some (.int .i64 (hi X)) ∧ w'.cell? ⟨w.heap.size, 1, none⟩ = some (.int .u64 (lo X))) (simp [go_sem, *])
    (first
      | (go_at_call 32; refine (widen_any X hX _).mono ?_; rintro e w' ⟨rfl, hg⟩; have hc := hg.cell))
  go_wp2
  go_ret
  exact ⟨rfl, (((Gr.refl _ _).alloc (Nat.le_refl _) _ _).drew).then hg⟩

theorem stop_out (X : Int) (hX : R128 X) (hO : ¬ R64 X) (w : World) :
    Calls Try.prog 31 #[.agg #[.int .i64 (hi X), .int .u64 (lo X)]] w fun e w' => e = .returned (.int .i64 (sat X)) ∧ Gr w.heap.size w w' := by
  obtain ⟨n, e1⟩ : ∃ n, wrap64 (lo X) = n := ⟨_, rfl⟩
  have hn : R64 n := by rw [← e1, wrap64_eq]; unfold R64; omega
  have e2 : (hi n == hi X) = false := by
    have : ¬ hi n = hi X := by
      intro h
      apply hO
      have e3 : lo n = lo X := by rw [← e1, wrap64_eq]; unfold lo; omega
      have := hilo X; have := hilo n
      have : n = X := by rw [← hilo n, ← hilo X, h, e3]
      exact this ▸ hn
    simpa using this
  obtain ⟨a1, a2⟩ := hi_bd hX
  obtain ⟨c1, c2⟩ := lo_bd X
  by_cases hs : X < 0
  · have s1 : hi X < 0 := by unfold hi; omega
    have e4 : sat X = -9223372036854775808 := by unfold R64 at hO; unfold sat; split <;> (try split) <;> omega
    go_enter Try.func31, Try.ntmps31
    go_wp2
    go_region_held3 (fun w' => w'.cell? ⟨w.heap.size, 0, none⟩ = some (.int .i64 (hi X)) ∧ w'.cell? ⟨w.heap.size, 1, none⟩ = some (.int .u64 (lo X))) (simp [go_sem, *])
      (first
        | (go_at_call 32; refine (widen_any n hn _).mono ?_; rintro e w' ⟨rfl, hg⟩; have hc := hg.cell))
    go_wp2
    go_ret
    exact ⟨by rw [e4]; rfl, (((Gr.refl _ _).alloc (Nat.le_refl _) _ _).drew).then hg⟩
  · have s1 : 0 ≤ hi X := by unfold hi; omega
    have e4 : sat X = 9223372036854775807 := by unfold R64 at hO; unfold sat; split <;> (try split) <;> omega
    go_enter Try.func31, Try.ntmps31
    go_wp2
    go_region_held3 (fun w' => w'.cell? ⟨w.heap.size, 0, none⟩ = some (.int .i64 (hi X)) ∧ w'.cell? ⟨w.heap.size, 1, none⟩ = some (.int .u64 (lo X))) (simp [go_sem, *])
      (first
        | (go_at_call 32; refine (widen_any n hn _).mono ?_; rintro e w' ⟨rfl, hg⟩; have hc := hg.cell))
    go_wp2
    go_ret
    exact ⟨by rw [e4]; rfl, (((Gr.refl _ _).alloc (Nat.le_refl _) _ _).drew).then hg⟩

theorem stop_any (X : Int) (hX : R128 X) (w : World) :
    Calls Try.prog 31 #[.agg #[.int .i64 (hi X), .int .u64 (lo X)]] w fun e w' => e = .returned (.int .i64 (sat X)) ∧ Gr w.heap.size w w' := by
  by_cases h : R64 X
  · rw [sat_in h]; exact stop_in X h w
  · exact stop_out X hX h w
end Go.Proofs.Ytmclcoaicngodaa
