/-
  Layer 2 (vec), walked: Go.
-/
import Derived.Test.YtlfpgpfjdobpeaaVec
import Derived.Deep.DrawnRows
namespace Go.Proofs.Ytlfpgpfjdobpeaa
open Go.RowKit
attribute [local go_sem ↓] Go.wp_at_zero Go.wp_at_succ

theorem vgo_any (a0 a1 a2 b0 b1 b2 k : Int) (ha0 : R64 a0) (ha1 : R64 a1) (ha2 : R64 a2) (hb0 : R64 b0) (hb1 : R64 b1) (hb2 : R64 b2) (hk : R64 k) (w : World) :
    Calls Try.prog 16 #[.agg #[.int .i64 a0, .int .i64 a1, .int .i64 a2], .agg #[.int .i64 b0, .int .i64 b1, .int .i64 b2], .int .i64 k] w
      fun e w' => e = .returned (.agg #[.int .i64 (sat (a0 + sat (b0 * k / 65536))), .int .i64 (sat (a1 + sat (b1 * k / 65536))), .int .i64 (sat (a2 + sat (b2 * k / 65536)))]) ∧ Gr w.heap.size w w' := by
  obtain ⟨H, hH⟩ : ∃ H, w.heap.size = H := ⟨_, rfl⟩
  go_enter Try.func16, Try.ntmps16
  go_wp2_with fail
  obtain ⟨W, hW⟩ : ∃ W, (((w.alloc (.cells #[.int .i64 a0, .int .i64 a1, .int .i64 a2] 22)).alloc (.cells #[.int .i64 b0, .int .i64 b1, .int .i64 b2] 22)).alloc (.cells #[.int .i64 0, .int .i64 0, .int .i64 0] 22)) = W := ⟨_, rfl⟩
  have A0 : Blk W (H) [.int .i64 a0, .int .i64 a1, .int .i64 a2] := by rw [← hW]; exact (((Blk.new _ _ _ hH.symm)).alloc _).alloc _
  have B0 : Blk W (H + 1) [.int .i64 b0, .int .i64 b1, .int .i64 b2] := by rw [← hW]; exact ((Blk.new _ _ _ (by simp [hH]))).alloc _
  have R0 : Blk W (H + 1 + 1) [.int .i64 0, .int .i64 0, .int .i64 0] := by rw [← hW]; exact (Blk.new _ _ _ (by simp [hH]))
  have G0 : Gr w.heap.size w W := by rw [← hW]; repeat' (first | exact Gr.refl _ _ | refine Gr.alloc ?_ ?_ _ _ | (simp; done) | (simp; omega))
  have Z0 : W.heap.size = H + 1 + 1 + 1 := by rw [← hW]; simp [hH]
  rw [hW]
  clear hW
  have nRA : H + 1 + 1 ≠ H := by omega
  have nRB : H + 1 + 1 ≠ H + 1 := by omega
  have xA0_0 := A0.cell 0 _ rfl
  have xA1_0 := A0.cell 1 _ rfl
  have xA2_0 := A0.cell 2 _ rfl
  have xB0_0 := B0.cell 0 _ rfl
  have xB1_0 := B0.cell 1 _ rfl
  have xB2_0 := B0.cell 2 _ rfl
  go_region_held3 (fun w' => w'.cell? ⟨H, 0, none⟩ = some (.int .i64 a0) ∧ w'.cell? ⟨H, 1, none⟩ = some (.int .i64 a1) ∧ w'.cell? ⟨H, 2, none⟩ = some (.int .i64 a2) ∧ w'.cell? ⟨H + 1, 0, none⟩ = some (.int .i64 b0) ∧ w'.cell? ⟨H + 1, 1, none⟩ = some (.int .i64 b1) ∧ w'.cell? ⟨H + 1, 2, none⟩ = some (.int .i64 b2)) (first | with_reducible exact ⟨(far3 xA0_2 nRA), (far3 xA1_2 nRA), (far3 xA2_2 nRA), (far3 xB0_2 nRB), (far3 xB1_2 nRB), (far3 xB2_2 nRB)⟩ | with_reducible exact ⟨(far3d xA0_2 nRA), (far3d xA1_2 nRA), (far3d xA2_2 nRA), (far3d xB0_2 nRB), (far3d xB1_2 nRB), (far3d xB2_2 nRB)⟩ | with_reducible exact ⟨xA0_2, xA1_2, xA2_2, xB0_2, xB1_2, xB2_2⟩ | with_reducible exact ⟨xA0_1, xA1_1, xA2_1, xB0_1, xB1_1, xB2_1⟩ | with_reducible exact ⟨xA0_0, xA1_0, xA2_0, xB0_0, xB1_0, xB2_0⟩ | go_keep)
    (first
      | (go_at_call 14; (with_reducible refine (vscale_any b0 b1 b2 k hb0 hb1 hb2 hk _).mono ?_); rintro e w1 ⟨rfl, g1⟩; have G1 := G0.drew.then g1; have Z1 := g1.size; have A1 := A0.drew.gr g1 A0.lt; have B1 := B0.drew.gr g1 B0.lt; have R1 := R0.drew.gr g1 R0.lt; have xA0_1 := A1.cell 0 _ rfl; have xA1_1 := A1.cell 1 _ rfl; have xA2_1 := A1.cell 2 _ rfl; have xB0_1 := B1.cell 0 _ rfl; have xB1_1 := B1.cell 1 _ rfl; have xB2_1 := B1.cell 2 _ rfl)
      | (go_at_call 10; (with_reducible refine (vadd_any a0 a1 a2 (sat (b0 * k / 65536)) (sat (b1 * k / 65536)) (sat (b2 * k / 65536)) ha0 ha1 ha2 (sat_bd _) (sat_bd _) (sat_bd _) _).mono ?_); rintro e w2 ⟨rfl, g2⟩; have G2 := G1.then g2; have Z2 := g2.size; have A2 := A1.gr g2 A1.lt; have B2 := B1.gr g2 B1.lt; have R2 := R1.gr g2 R1.lt; have xA0_2 := A2.cell 0 _ rfl; have xA1_2 := A2.cell 1 _ rfl; have xA2_2 := A2.cell 2 _ rfl; have xB0_2 := B2.cell 0 _ rfl; have xB1_2 := B2.cell 1 _ rfl; have xB2_2 := B2.cell 2 _ rfl; have cR0 := R2.cell 0 _ rfl; have fR0 := R2.froz 0; have cR1 := R2.cell 1 _ rfl; have fR1 := R2.froz 1; have cR2 := R2.cell 2 _ rfl; have fR2 := R2.froz 2))
  go_wp2_with fail
  refine bodyPost_ret (v := .agg #[.int .i64 (sat (a0 + sat (b0 * k / 65536))), .int .i64 (sat (a1 + sat (b1 * k / 65536))), .int .i64 (sat (a2 + sat (b2 * k / 65536)))]) (by simp [results, Try.results16, go_sem, cR0, cR1, cR2]) rfl ⟨rfl, ?_⟩
  exact (Gr.setCell (Gr.setCell (Gr.setCell G2 (by simp; omega) _) (by simp; omega) _) (by simp; omega) _)

end Go.Proofs.Ytlfpgpfjdobpeaa
