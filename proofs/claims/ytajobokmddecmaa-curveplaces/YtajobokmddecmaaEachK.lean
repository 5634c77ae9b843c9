/-
  Layer 2 (vec): the generic function over arrays of three, at its four instances: whatever is done with each number.
-/
import Derived.Test.YtajobokmddecmaaBlk
import Derived.Handy
import Derived.Deep.DrawnRows
namespace Go.Proofs.Ytajobokmddecmaa
open Go.RowKit
attribute [local go_sem ↓] Go.wp_at_zero Go.wp_at_succ

set_option maxHeartbeats 6000000 in
theorem each_kept (K : Nat) (cap : Array Value) (f : Int → Int → Int → Int) (I P : World → Prop) (w : World)
    (hK : ∀ args u, (callFunc K args).run Try.prog u = .ok (.enter K args) u)
    (hI : ∀ u u', I u → Gr w.heap.size u u' → I u') (hP : ∀ u u', P u → Gr w.heap.size u u' → P u') (hPI : ∀ u, P u → I u)
    (hf : ∀ x y z u, R64 x → R64 y → R64 z → I u → Calls Try.prog K (#[.int .i64 x, .agg #[.int .i64 y, .int .i64 z]] ++ cap) u fun e u' => e = .returned (.int .i64 (f x y z)) ∧ P u' ∧ Up w.heap.size u u')
    (a0 a1 a2 b0 c0 b1 c1 b2 c2 : Int) (ha0 : R64 a0) (ha1 : R64 a1) (ha2 : R64 a2) (hb0 : R64 b0) (hc0 : R64 c0) (hb1 : R64 b1) (hc1 : R64 c1) (hb2 : R64 b2) (hc2 : R64 c2) (h0 : I w) :
    Calls Try.prog 39 #[.agg #[.int .i64 a0, .int .i64 a1, .int .i64 a2], .agg #[.int .i64 b0, .int .i64 c0, .int .i64 b1, .int .i64 c1, .int .i64 b2, .int .i64 c2], .func (.func K) #[] cap] w
      fun e w' => e = .returned (.agg #[.int .i64 (f a0 b0 c0), .int .i64 (f a1 b1 c1), .int .i64 (f a2 b2 c2)]) ∧ P w' := by
  obtain ⟨H, hH⟩ : ∃ H, w.heap.size = H := ⟨_, rfl⟩
  rw [hH] at hI hP hf
  go_enter Try.func39, Try.ntmps39
  go_wp2_with fail
  obtain ⟨W, hW⟩ : ∃ W, (((w.alloc (.cells #[.int .i64 a0, .int .i64 a1, .int .i64 a2] 35)).alloc (.cells #[.int .i64 b0, .int .i64 c0, .int .i64 b1, .int .i64 c1, .int .i64 b2, .int .i64 c2] 67)).alloc (.cells #[.int .i64 0, .int .i64 0, .int .i64 0] 35)).alloc (.cells #[.int .i64 0, .int .i64 0, .int .i64 0] 35) = W := ⟨_, rfl⟩
  have A0 : Blk W H [.int .i64 a0, .int .i64 a1, .int .i64 a2] := by rw [← hW]; exact (((Blk.new _ _ _ hH.symm).alloc _).alloc _).alloc _
  have B0 : Blk W (H + 1) [.int .i64 b0, .int .i64 c0, .int .i64 b1, .int .i64 c1, .int .i64 b2, .int .i64 c2] := by rw [← hW]; exact ((Blk.new _ _ _ (by simp [hH])).alloc _).alloc _
  have R0 : Blk W (H + 1 + 1) [.int .i64 0, .int .i64 0, .int .i64 0] := by rw [← hW]; exact (Blk.new _ _ _ (by simp [hH])).alloc _
  have D0 : Blk W (H + 1 + 1 + 1) [.int .i64 0, .int .i64 0, .int .i64 0] := by rw [← hW]; exact Blk.new _ _ _ (by simp [hH])
  have J0 : I W := hI _ _ h0 (by rw [← hW, ← hH]; repeat' (first | exact Gr.refl _ _ | refine Gr.alloc ?_ ?_ _ _ | (simp; done) | (simp; omega)))
  rw [hW]
  clear hW h0
  refine wp_loop_rounds 4 ?_
  have nA : H + 1 + 1 + 1 ≠ H := by omega
  have nB : H + 1 + 1 + 1 ≠ H + 1 := by omega
  rw [rounds_succ]
  have za := A0.cell 0 _ rfl
  have zb0 := B0.cell 0 _ rfl
  have zb1 := B0.cell 1 _ rfl
  go_wp2_with fail
  go_region_held3 (fun w' => w'.cell? ⟨H, 0, none⟩ = some (.int .i64 a0) ∧ w'.cell? ⟨H + 1, 0, none⟩ = some (.int .i64 b0) ∧ w'.cell? ⟨H + 1, 1, none⟩ = some (.int .i64 c0)) (first | with_reducible exact ⟨za, zb0, zb1⟩ | with_reducible exact ⟨p0, q0, q1⟩ | with_reducible exact ⟨(far1c p0 nA), (far1c q0 nB), (far1c q1 nB)⟩ | go_keep)
    (first | ((with_reducible refine (hf _ _ _ _ ha0 hb0 hc0 ?_).mono ?_); (exact hI _ _ J0 (Gr.drew (Gr.refl _ _))); rintro e w1 ⟨rfl, hJ, hu⟩; have A1 := A0.drew.up hu (by omega); have B1 := B0.drew.up hu (by omega); have R1 := R0.drew.up hu (by omega); have D1 := D0.drew.up hu (by omega); have p0 := A1.cell 0 _ rfl; have q0 := B1.cell 0 _ rfl; have q1 := B1.cell 1 _ rfl; have x0 := D1.cell 0 _ rfl; have y0 := D1.froz 0))
  go_wp2_with fail
  have A' := (A1.other (p := ⟨H + 1 + 1 + 1, 0, none⟩) (fun h => by have h' : H + 1 + 1 + 1 = H := h; omega) (.int .i64 (f a0 b0 c0)))
  have B' := (B1.other (p := ⟨H + 1 + 1 + 1, 0, none⟩) (fun h => by have h' : H + 1 + 1 + 1 = H + 1 := h; omega) (.int .i64 (f a0 b0 c0)))
  have R' := (R1.other (p := ⟨H + 1 + 1 + 1, 0, none⟩) (fun h => by have h' : H + 1 + 1 + 1 = H + 1 + 1 := h; omega) (.int .i64 (f a0 b0 c0)))
  have D' := (D1.set 0 (.int .i64 (f a0 b0 c0)) (by simp))
  have P1 := hP _ _ hJ (Gr.setCell (p := ⟨H + 1 + 1 + 1, 0, none⟩) (Gr.refl _ _) (show H ≤ H + 1 + 1 + 1 by omega) (.int .i64 (f a0 b0 c0)))
  simp only [List.set] at D'
  obtain ⟨W1, hW⟩ : ∃ W, (w1.setCell ⟨H + 1 + 1 + 1, 0, none⟩ (.int .i64 (f a0 b0 c0))) = W := ⟨_, rfl⟩
  rw [hW] at A' B' R' D' P1
  have J1 := hPI _ P1
  rw [hW]
  clear hW hu hJ A1 B1 R1 D1 p0 q0 q1 za zb0 zb1 x0 y0
  have A1 := A'; have B1 := B'; have R1 := R'; have D1 := D'
  clear A' B' R' D'
  rw [rounds_succ]
  have za := A1.cell 1 _ rfl
  have zb0 := B1.cell 2 _ rfl
  have zb1 := B1.cell 3 _ rfl
  go_wp2_with fail
  go_region_held3 (fun w' => w'.cell? ⟨H, 1, none⟩ = some (.int .i64 a1) ∧ w'.cell? ⟨H + 1, 2, none⟩ = some (.int .i64 b1) ∧ w'.cell? ⟨H + 1, 3, none⟩ = some (.int .i64 c1)) (first | with_reducible exact ⟨za, zb0, zb1⟩ | with_reducible exact ⟨p0, q0, q1⟩ | with_reducible exact ⟨(far1c p0 nA), (far1c q0 nB), (far1c q1 nB)⟩ | go_keep)
    (first | ((with_reducible refine (hf _ _ _ _ ha1 hb1 hc1 ?_).mono ?_); (exact hI _ _ J1 (Gr.drew (Gr.refl _ _))); rintro e w2 ⟨rfl, hJ, hu⟩; have A2 := A1.drew.up hu (by omega); have B2 := B1.drew.up hu (by omega); have R2 := R1.drew.up hu (by omega); have D2 := D1.drew.up hu (by omega); have p0 := A2.cell 1 _ rfl; have q0 := B2.cell 2 _ rfl; have q1 := B2.cell 3 _ rfl; have x0 := D2.cell 1 _ rfl; have y0 := D2.froz 1))
  go_wp2_with fail
  have A' := (A2.other (p := ⟨H + 1 + 1 + 1, 1, none⟩) (fun h => by have h' : H + 1 + 1 + 1 = H := h; omega) (.int .i64 (f a1 b1 c1)))
  have B' := (B2.other (p := ⟨H + 1 + 1 + 1, 1, none⟩) (fun h => by have h' : H + 1 + 1 + 1 = H + 1 := h; omega) (.int .i64 (f a1 b1 c1)))
  have R' := (R2.other (p := ⟨H + 1 + 1 + 1, 1, none⟩) (fun h => by have h' : H + 1 + 1 + 1 = H + 1 + 1 := h; omega) (.int .i64 (f a1 b1 c1)))
  have D' := (D2.set 1 (.int .i64 (f a1 b1 c1)) (by simp))
  have P2 := hP _ _ hJ (Gr.setCell (p := ⟨H + 1 + 1 + 1, 1, none⟩) (Gr.refl _ _) (show H ≤ H + 1 + 1 + 1 by omega) (.int .i64 (f a1 b1 c1)))
  simp only [List.set] at D'
  obtain ⟨W2, hW⟩ : ∃ W, (w2.setCell ⟨H + 1 + 1 + 1, 1, none⟩ (.int .i64 (f a1 b1 c1))) = W := ⟨_, rfl⟩
  rw [hW] at A' B' R' D' P2
  have J2 := hPI _ P2
  rw [hW]
  clear hW hu hJ A2 B2 R2 D2 p0 q0 q1 za zb0 zb1 x0 y0
  have A2 := A'; have B2 := B'; have R2 := R'; have D2 := D'
  clear A' B' R' D'
  rw [rounds_succ]
  have za := A2.cell 2 _ rfl
  have zb0 := B2.cell 4 _ rfl
  have zb1 := B2.cell 5 _ rfl
  go_wp2_with fail
  go_region_held3 (fun w' => w'.cell? ⟨H, 2, none⟩ = some (.int .i64 a2) ∧ w'.cell? ⟨H + 1, 4, none⟩ = some (.int .i64 b2) ∧ w'.cell? ⟨H + 1, 5, none⟩ = some (.int .i64 c2)) (first | with_reducible exact ⟨za, zb0, zb1⟩ | with_reducible exact ⟨p0, q0, q1⟩ | with_reducible exact ⟨(far1c p0 nA), (far1c q0 nB), (far1c q1 nB)⟩ | go_keep)
    (first | ((with_reducible refine (hf _ _ _ _ ha2 hb2 hc2 ?_).mono ?_); (exact hI _ _ J2 (Gr.drew (Gr.refl _ _))); rintro e w3 ⟨rfl, hJ, hu⟩; have A3 := A2.drew.up hu (by omega); have B3 := B2.drew.up hu (by omega); have R3 := R2.drew.up hu (by omega); have D3 := D2.drew.up hu (by omega); have p0 := A3.cell 2 _ rfl; have q0 := B3.cell 4 _ rfl; have q1 := B3.cell 5 _ rfl; have x0 := D3.cell 2 _ rfl; have y0 := D3.froz 2))
  go_wp2_with fail
  have A' := (A3.other (p := ⟨H + 1 + 1 + 1, 2, none⟩) (fun h => by have h' : H + 1 + 1 + 1 = H := h; omega) (.int .i64 (f a2 b2 c2)))
  have B' := (B3.other (p := ⟨H + 1 + 1 + 1, 2, none⟩) (fun h => by have h' : H + 1 + 1 + 1 = H + 1 := h; omega) (.int .i64 (f a2 b2 c2)))
  have R' := (R3.other (p := ⟨H + 1 + 1 + 1, 2, none⟩) (fun h => by have h' : H + 1 + 1 + 1 = H + 1 + 1 := h; omega) (.int .i64 (f a2 b2 c2)))
  have D' := (D3.set 2 (.int .i64 (f a2 b2 c2)) (by simp))
  have P3 := hP _ _ hJ (Gr.setCell (p := ⟨H + 1 + 1 + 1, 2, none⟩) (Gr.refl _ _) (show H ≤ H + 1 + 1 + 1 by omega) (.int .i64 (f a2 b2 c2)))
  simp only [List.set] at D'
  obtain ⟨W3, hW⟩ : ∃ W, (w3.setCell ⟨H + 1 + 1 + 1, 2, none⟩ (.int .i64 (f a2 b2 c2))) = W := ⟨_, rfl⟩
  rw [hW] at A' B' R' D' P3
  have J3 := hPI _ P3
  rw [hW]
  clear hW hu hJ A3 B3 R3 D3 p0 q0 q1 za zb0 zb1 x0 y0
  have A3 := A'; have B3 := B'; have R3 := R'; have D3 := D'
  clear A' B' R' D'
  rw [rounds_succ]
  have x0 := D3.cell 0 _ rfl
  have y0 := R3.cell 0 _ rfl
  have v0 := R3.froz 0
  have x1 := D3.cell 1 _ rfl
  have y1 := R3.cell 1 _ rfl
  have v1 := R3.froz 1
  have x2 := D3.cell 2 _ rfl
  have y2 := R3.cell 2 _ rfl
  have v2 := R3.froz 2
  go_wp2_with fail
  refine bodyPost_ret (v := .agg #[.int .i64 (f a0 b0 c0), .int .i64 (f a1 b1 c1), .int .i64 (f a2 b2 c2)]) (by simp [results, Try.results39, go_sem, y0, y1, y2]) rfl ?_
  refine ⟨rfl, hP _ _ P3 ?_⟩
  repeat' (first | exact Gr.refl _ _ | refine Gr.setCell ?_ ?_ _ | (show H ≤ H + 1 + 1; omega))
end Go.Proofs.Ytajobokmddecmaa
