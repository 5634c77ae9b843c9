/-
  Layer 4 (curve): what the code's functions answer, of any input.
-/
import Derived.Test.YtajobokmddecmaaCurve
import Derived.Test.YtajobokmddecmaaRefPart
import Derived.Test.YtajobokmddecmaaRefMul
import Derived.Test.YtajobokmddecmaaRefAdds
import Derived.Test.YtajobokmddecmaaRefClamp
import Derived.Test.YtajobokmddecmaaBlk
import Derived.Handy
import Derived.Deep.DrawnRows
namespace Go.Proofs.Ytajobokmddecmaa
open Go.RowKit
attribute [local go_sem ↓] Go.wp_at_zero Go.wp_at_succ

theorem results_four {fn : Func} {s t u v : Tmp} (h : fn.results = #[.tmp s, .tmp t, .tmp u, .tmp v]) (tmps : Array Value) (P : Program) (w : World) :
    (results fn tmps).run P w = .ok (.tuple #[tmps.getD s undef, tmps.getD t undef, tmps.getD u undef, tmps.getD v undef]) w := by simp [results, h]

theorem weights_any (u : Int) (h0 : 0 ≤ u) (h1 : u ≤ 65536) (w : World) :
    Calls Try.prog 8 #[.int .i64 u] w fun e w' => e = .returned (.tuple #[.int .i64 (wayW u), .int .i64 (firstW u), .int .i64 (lastW u), .int .i64 0]) ∧ Gr w.heap.size w w' := by
  obtain ⟨a0, a1⟩ := sq_bd h0 h1
  obtain ⟨b0, b1⟩ := cu_bd h0 h1
  have ru : R64 u := by unfold R64; omega
  have hs : sat (u * u / 65536) = sq u := sat_in (by unfold R64; unfold sq at a0 a1; omega)
  have hc : sat (sq u * u / 65536) = cu u := sat_in (by unfold R64; unfold cu at b0 b1; omega)
  obtain ⟨p, hp⟩ : ∃ p, sq u = p := ⟨_, rfl⟩
  obtain ⟨q, hq⟩ : ∃ q, cu u = q := ⟨_, rfl⟩
  unfold wayW firstW lastW
  rw [hp] at a0 a1 b1 hs hc
  rw [hq] at b0 b1 hc
  rw [hp, hq]
  have rp : R64 p := by unfold R64; omega
  have HS := (show Hid _ from hs); have HC := (show Hid _ from hc)
  have e1 : wrap64 (3 * p) = 3 * p := wrap64_of _ _ 0 (by omega) (by unfold R64; omega)
  have e2 : wrap64 (2 * q) = 2 * q := wrap64_of _ _ 0 (by omega) (by unfold R64; omega)
  have e3 : wrap64 (2 * p) = 2 * p := wrap64_of _ _ 0 (by omega) (by unfold R64; omega)
  have e4 : wrap64 (3 * p - 2 * q) = 3 * p - 2 * q := wrap64_of _ _ 0 (by omega) (by unfold R64; omega)
  have e5 : wrap64 (q - 2 * p) = q - 2 * p := wrap64_of _ _ 0 (by omega) (by unfold R64; omega)
  have e6 : wrap64 (q - 2 * p + u) = q - 2 * p + u := wrap64_of _ _ 0 (by omega) (by unfold R64; omega)
  have e7 : wrap64 (q - p) = q - p := wrap64_of _ _ 0 (by omega) (by unfold R64; omega)
  clear hs hc hp hq
  go_enter Try.func8, Try.ntmps8
  go_wp2_with fail
  refine (mul_any u u ru ru _).mono ?_; rw [HS.out]; rintro e w1 ⟨rfl, g1⟩
  go_wp2_with fail
  refine (mul_any p u rp ru _).mono ?_; rw [HC.out]; rintro e w2 ⟨rfl, g2⟩
  go_wp2_with fail
  (try simp only [Exit.inBlock, Exit.then])
  refine bodyPost_ret (results_four rfl _ _ _) rfl ?_
  exact ⟨rfl, g1.then g2⟩
theorem weights_no (u : Int) (h : u < 0 ∨ 65536 < u) (w : World) :
    Calls Try.prog 8 #[.int .i64 u] w fun e w' => e = .returned (.tuple #[.int .i64 0, .int .i64 0, .int .i64 0, .int .i64 3]) ∧ w' = w := by
  go_enter Try.func8, Try.ntmps8
  rcases h with h | h <;> (go_wp2; (try simp only [Exit.inBlock, Exit.then]); refine bodyPost_ret (results_four rfl _ _ _) rfl ?_; exact ⟨rfl, rfl⟩)

theorem rweights_any (u : Int) (h0 : 0 ≤ u) (h1 : u ≤ 65536) (w : World) :
    Calls Try.prog 10 #[.int .i64 u] w fun e w' => e = .returned (.tuple #[.int .i64 (wayW u), .int .i64 (firstW u), .int .i64 (lastW u)]) ∧ w' = w := by
  obtain ⟨a0, a1⟩ := sq_bd h0 h1
  obtain ⟨b0, b1⟩ := cu_bd h0 h1
  have ru : R64 u := by unfold R64; omega
  have hs : sat (u * u / 65536) = sq u := sat_in (by unfold R64; unfold sq at a0 a1; omega)
  have hc : sat (sq u * u / 65536) = cu u := sat_in (by unfold R64; unfold cu at b0 b1; omega)
  obtain ⟨p, hp⟩ : ∃ p, sq u = p := ⟨_, rfl⟩
  obtain ⟨q, hq⟩ : ∃ q, cu u = q := ⟨_, rfl⟩
  unfold wayW firstW lastW
  rw [hp] at a0 a1 b1 hs hc
  rw [hq] at b0 b1 hc
  rw [hp, hq]
  have rp : R64 p := by unfold R64; omega
  have HS := (show Hid _ from hs); have HC := (show Hid _ from hc)
  have e1 : wrap64 (3 * p) = 3 * p := wrap64_of _ _ 0 (by omega) (by unfold R64; omega)
  have e2 : wrap64 (2 * q) = 2 * q := wrap64_of _ _ 0 (by omega) (by unfold R64; omega)
  have e3 : wrap64 (2 * p) = 2 * p := wrap64_of _ _ 0 (by omega) (by unfold R64; omega)
  have e4 : wrap64 (3 * p - 2 * q) = 3 * p - 2 * q := wrap64_of _ _ 0 (by omega) (by unfold R64; omega)
  have e5 : wrap64 (q - 2 * p) = q - 2 * p := wrap64_of _ _ 0 (by omega) (by unfold R64; omega)
  have e6 : wrap64 (q - 2 * p + u) = q - 2 * p + u := wrap64_of _ _ 0 (by omega) (by unfold R64; omega)
  have e7 : wrap64 (q - p) = q - p := wrap64_of _ _ 0 (by omega) (by unfold R64; omega)
  clear hs hc hp hq
  go_enter Try.func10, Try.ntmps10
  go_wp2_with fail
  refine (refMul_any u u ru ru _).mono ?_; rw [HS.out]; rintro e w1 ⟨rfl, rfl⟩
  go_wp2_with fail
  refine (refMul_any p u rp ru _).mono ?_; rw [HC.out]; rintro e w2 ⟨rfl, rfl⟩
  go_wp2_with fail
  go_ret3
  exact ⟨rfl, rfl⟩
end Go.Proofs.Ytajobokmddecmaa
