/-
  Layer 2 (vec), walked: Between, Near; the document's Between, Near.
-/
import Derived.Test.YtajobokmddecmaaVec3
import Derived.Test.YtajobokmddecmaaRefVec
import Derived.Test.YtajobokmddecmaaEq3
import Derived.Deep.DrawnRows
namespace Go.Proofs.Ytajobokmddecmaa
open Go.RowKit
attribute [local go_sem ↓] Go.wp_at_zero Go.wp_at_succ
attribute [local go_sem] eq3_run

/-- Is x between a and b? -/
def btwB (x a b : Int) : Bool := clampI x a b == x
theorem vbetween_any (x0 x1 x2 a0 a1 a2 b0 b1 b2 : Int) (hx0 : R64 x0) (hx1 : R64 x1) (hx2 : R64 x2) (ha0 : R64 a0) (ha1 : R64 a1) (ha2 : R64 a2) (hb0 : R64 b0) (hb1 : R64 b1) (hb2 : R64 b2) (w : World) :
    Calls Try.prog 16 #[.agg #[.int .i64 x0, .int .i64 x1, .int .i64 x2], .agg #[.int .i64 a0, .int .i64 a1, .int .i64 a2], .agg #[.int .i64 b0, .int .i64 b1, .int .i64 b2]] w
      fun e w' => e = .returned (.bool (btwB x0 a0 b0 && (btwB x1 a1 b1 && btwB x2 a2 b2))) ∧ Gr w.heap.size w w' := by
  obtain ⟨H, hH⟩ : ∃ H, w.heap.size = H := ⟨_, rfl⟩
  go_enter Try.func16, Try.ntmps16
  go_wp2_with fail
  obtain ⟨W, hW⟩ : ∃ W, (((w.alloc (.cells #[.int .i64 x0, .int .i64 x1, .int .i64 x2] 35)).alloc (.cells #[.int .i64 a0, .int .i64 a1, .int .i64 a2] 35)).alloc (.cells #[.int .i64 b0, .int .i64 b1, .int .i64 b2] 35)) = W := ⟨_, rfl⟩
  have X0 : Blk W (H) [.int .i64 x0, .int .i64 x1, .int .i64 x2] := by rw [← hW]; exact (((Blk.new _ _ _ hH.symm)).alloc _).alloc _
  have A0 : Blk W (H + 1) [.int .i64 a0, .int .i64 a1, .int .i64 a2] := by rw [← hW]; exact ((Blk.new _ _ _ (by simp [hH]))).alloc _
  have B0 : Blk W (H + 1 + 1) [.int .i64 b0, .int .i64 b1, .int .i64 b2] := by rw [← hW]; exact (Blk.new _ _ _ (by simp [hH]))
  have G0 : Gr w.heap.size w W := by rw [← hW]; repeat' (first | exact Gr.refl _ _ | refine Gr.alloc ?_ ?_ _ _ | (simp; done) | (simp; omega))
  have Z0 : W.heap.size = H + 1 + 1 + 1 := by rw [← hW]; simp [hH]
  rw [hW]
  clear hW
  have xX0_0 := X0.cell 0 _ rfl
  have xX1_0 := X0.cell 1 _ rfl
  have xX2_0 := X0.cell 2 _ rfl
  have xA0_0 := A0.cell 0 _ rfl
  have xA1_0 := A0.cell 1 _ rfl
  have xA2_0 := A0.cell 2 _ rfl
  have xB0_0 := B0.cell 0 _ rfl
  have xB1_0 := B0.cell 1 _ rfl
  have xB2_0 := B0.cell 2 _ rfl
  go_region_held3 (fun w' => w'.cell? ⟨H, 0, none⟩ = some (.int .i64 x0) ∧ w'.cell? ⟨H, 1, none⟩ = some (.int .i64 x1) ∧ w'.cell? ⟨H, 2, none⟩ = some (.int .i64 x2) ∧ w'.cell? ⟨H + 1, 0, none⟩ = some (.int .i64 a0) ∧ w'.cell? ⟨H + 1, 1, none⟩ = some (.int .i64 a1) ∧ w'.cell? ⟨H + 1, 2, none⟩ = some (.int .i64 a2) ∧ w'.cell? ⟨H + 1 + 1, 0, none⟩ = some (.int .i64 b0) ∧ w'.cell? ⟨H + 1 + 1, 1, none⟩ = some (.int .i64 b1) ∧ w'.cell? ⟨H + 1 + 1, 2, none⟩ = some (.int .i64 b2)) (first | with_reducible exact ⟨xX0_1, xX1_1, xX2_1, xA0_1, xA1_1, xA2_1, xB0_1, xB1_1, xB2_1⟩ | with_reducible exact ⟨xX0_0, xX1_0, xX2_0, xA0_0, xA1_0, xA2_0, xB0_0, xB1_0, xB2_0⟩ | go_keep)
    (first
      | (go_at_call 27; (with_reducible refine (vclamp_any x0 x1 x2 a0 a1 a2 b0 b1 b2 hx0 hx1 hx2 ha0 ha1 ha2 hb0 hb1 hb2 _).mono ?_); rintro e w1 ⟨rfl, g1⟩; have G1 := G0.drew.then g1; have Z1 := g1.size; have X1 := X0.drew.gr g1 X0.lt; have A1 := A0.drew.gr g1 A0.lt; have B1 := B0.drew.gr g1 B0.lt; have xX0_1 := X1.cell 0 _ rfl; have xX1_1 := X1.cell 1 _ rfl; have xX2_1 := X1.cell 2 _ rfl; have xA0_1 := A1.cell 0 _ rfl; have xA1_1 := A1.cell 1 _ rfl; have xA2_1 := A1.cell 2 _ rfl; have xB0_1 := B1.cell 0 _ rfl; have xB1_1 := B1.cell 1 _ rfl; have xB2_1 := B1.cell 2 _ rfl))
  go_wp2_with fail
  go_ret
  exact ⟨rfl, G1⟩
/-- Are two vectors no further apart than d? -/
def nearB (a0 a1 a2 b0 b1 b2 d : Int) : Bool := decide (0 ≤ d ∧ apartI a0 b0 ≤ d ∧ apartI a1 b1 ≤ d ∧ apartI a2 b2 ≤ d)
theorem apart_bd {a b : Int} (ha : R64 a) (hb : R64 b) : 0 ≤ apartI a b ∧ apartI a b ≤ 18446744073709551615 := by
  unfold R64 at ha hb; unfold apartI; omega
end Go.Proofs.Ytajobokmddecmaa
