/-
  Layer 2 (vec), walked: endsOf, kept, apart, Clamp.
-/
import Derived.Test.YtajobokmddecmaaVec
import Derived.Test.YtajobokmddecmaaEachE
import Derived.Test.YtajobokmddecmaaEachK
import Derived.Test.YtajobokmddecmaaEachA
import Derived.Deep.DrawnRows
namespace Go.Proofs.Ytajobokmddecmaa
open Go.RowKit
attribute [local go_sem ↓] Go.wp_at_zero Go.wp_at_succ

theorem endsOf_any (a b : Int) (w : World) :
    Calls Try.prog 41 #[.int .i64 a, .int .i64 b] w fun e w' => e = .returned (.agg #[.int .i64 a, .int .i64 b]) ∧ Gr w.heap.size w w' := by
  go_enter Try.func41, Try.ntmps41
  go_wp2_with fail
  refine bodyPost_ret (v := .agg #[.int .i64 a, .int .i64 b]) (by simp [results, Try.results41, go_sem]) rfl ⟨rfl, ?_⟩
  repeat' (first | exact Gr.refl _ _ | refine Gr.setCell ?_ ?_ _ | refine Gr.alloc ?_ ?_ _ _)
  all_goals first | (simp; done) | (simp; omega)
theorem kept_any (x a b : Int) (w : World) :
    Calls Try.prog 42 #[.int .i64 x, .agg #[.int .i64 a, .int .i64 b]] w fun e w' => e = .returned (.int .i64 (clampI x a b)) ∧ Gr w.heap.size w w' := by
  go_enter Try.func42, Try.ntmps42
  go_wp2_with fail
  refine (clamp_any x a b _).mono ?_; rintro e w1 ⟨rfl, rfl⟩
  go_wp2_with fail
  go_ret
  exact ⟨rfl, (Gr.refl _ _).alloc (Nat.le_refl _) _ _⟩
/-- How far two numbers are apart. -/
def apartI (a b : Int) : Int := max a b - min a b
theorem each_ends_pure (w : World) (a0 a1 a2 b0 b1 b2 : Int) (ha0 : R64 a0) (ha1 : R64 a1) (ha2 : R64 a2) (hb0 : R64 b0) (hb1 : R64 b1) (hb2 : R64 b2) :
    Calls Try.prog 40 #[.agg #[.int .i64 a0, .int .i64 a1, .int .i64 a2], .agg #[.int .i64 b0, .int .i64 b1, .int .i64 b2], .func (.func 41) #[] #[]] w
      fun e w' => e = .returned (.agg #[.int .i64 a0, .int .i64 b0, .int .i64 a1, .int .i64 b1, .int .i64 a2, .int .i64 b2]) ∧ Gr w.heap.size w w' :=
  each_ends 41 #[] (fun u => Gr w.heap.size w u) (fun u => Gr w.heap.size w u) w (enters_of Try.func41 (by kernel_rfl) rfl) (fun u u' h k => h.trans k) (fun u u' h k => h.trans k) (fun _ h => h)
    (fun x y u _ _ hu => by
      refine (endsOf_any x y u).mono ?_
      rintro e u' ⟨rfl, g⟩
      exact ⟨rfl, hu.then g, g.up⟩)
    a0 a1 a2 b0 b1 b2 ha0 ha1 ha2 hb0 hb1 hb2 (Gr.refl _ _)
theorem each_kept_pure (w : World) (x0 x1 x2 a0 b0 a1 b1 a2 b2 : Int) (hx0 : R64 x0) (hx1 : R64 x1) (hx2 : R64 x2) (ha0 : R64 a0) (hb0 : R64 b0) (ha1 : R64 a1) (hb1 : R64 b1) (ha2 : R64 a2) (hb2 : R64 b2) :
    Calls Try.prog 39 #[.agg #[.int .i64 x0, .int .i64 x1, .int .i64 x2], .agg #[.int .i64 a0, .int .i64 b0, .int .i64 a1, .int .i64 b1, .int .i64 a2, .int .i64 b2], .func (.func 42) #[] #[]] w
      fun e w' => e = .returned (.agg #[.int .i64 (clampI x0 a0 b0), .int .i64 (clampI x1 a1 b1), .int .i64 (clampI x2 a2 b2)]) ∧ Gr w.heap.size w w' :=
  each_kept 42 #[] clampI (fun u => Gr w.heap.size w u) (fun u => Gr w.heap.size w u) w (enters_of Try.func42 (by kernel_rfl) rfl) (fun u u' h k => h.trans k) (fun u u' h k => h.trans k) (fun _ h => h)
    (fun x y z u _ _ _ hu => by
      refine (kept_any x y z u).mono ?_
      rintro e u' ⟨rfl, g⟩
      exact ⟨rfl, hu.then g, g.up⟩)
    x0 x1 x2 a0 b0 a1 b1 a2 b2 hx0 hx1 hx2 ha0 hb0 ha1 hb1 ha2 hb2 (Gr.refl _ _)
theorem vclamp_any (x0 x1 x2 a0 a1 a2 b0 b1 b2 : Int) (hx0 : R64 x0) (hx1 : R64 x1) (hx2 : R64 x2) (ha0 : R64 a0) (ha1 : R64 a1) (ha2 : R64 a2) (hb0 : R64 b0) (hb1 : R64 b1) (hb2 : R64 b2) (w : World) :
    Calls Try.prog 27 #[.agg #[.int .i64 x0, .int .i64 x1, .int .i64 x2], .agg #[.int .i64 a0, .int .i64 a1, .int .i64 a2], .agg #[.int .i64 b0, .int .i64 b1, .int .i64 b2]] w
      fun e w' => e = .returned (.agg #[.int .i64 (clampI x0 a0 b0), .int .i64 (clampI x1 a1 b1), .int .i64 (clampI x2 a2 b2)]) ∧ Gr w.heap.size w w' := by
  obtain ⟨H, hH⟩ : ∃ H, w.heap.size = H := ⟨_, rfl⟩
  go_enter Try.func27, Try.ntmps27
  go_wp2_with fail
  obtain ⟨W, hW⟩ : ∃ W, ((((w.alloc (.cells #[.int .i64 x0, .int .i64 x1, .int .i64 x2] 35)).alloc (.cells #[.int .i64 a0, .int .i64 a1, .int .i64 a2] 35)).alloc (.cells #[.int .i64 b0, .int .i64 b1, .int .i64 b2] 35)).alloc (.cells #[.int .i64 0, .int .i64 0, .int .i64 0] 35)) = W := ⟨_, rfl⟩
  have X0 : Blk W (H) [.int .i64 x0, .int .i64 x1, .int .i64 x2] := by rw [← hW]; exact ((((Blk.new _ _ _ hH.symm)).alloc _).alloc _).alloc _
  have A0 : Blk W (H + 1) [.int .i64 a0, .int .i64 a1, .int .i64 a2] := by rw [← hW]; exact (((Blk.new _ _ _ (by simp [hH]))).alloc _).alloc _
  have B0 : Blk W (H + 1 + 1) [.int .i64 b0, .int .i64 b1, .int .i64 b2] := by rw [← hW]; exact ((Blk.new _ _ _ (by simp [hH]))).alloc _
  have R0 : Blk W (H + 1 + 1 + 1) [.int .i64 0, .int .i64 0, .int .i64 0] := by rw [← hW]; exact (Blk.new _ _ _ (by simp [hH]))
  have G0 : Gr w.heap.size w W := by rw [← hW]; repeat' (first | exact Gr.refl _ _ | refine Gr.alloc ?_ ?_ _ _ | (simp; done) | (simp; omega))
  have Z0 : W.heap.size = H + 1 + 1 + 1 + 1 := by rw [← hW]; simp [hH]
  rw [hW]
  clear hW
  have nRX : H + 1 + 1 + 1 ≠ H := by omega
  have nRA : H + 1 + 1 + 1 ≠ H + 1 := by omega
  have nRB : H + 1 + 1 + 1 ≠ H + 1 + 1 := by omega
  have xX0_0 := X0.cell 0 _ rfl
  have xX1_0 := X0.cell 1 _ rfl
  have xX2_0 := X0.cell 2 _ rfl
  have xA0_0 := A0.cell 0 _ rfl
  have xA1_0 := A0.cell 1 _ rfl
  have xA2_0 := A0.cell 2 _ rfl
  have xB0_0 := B0.cell 0 _ rfl
  have xB1_0 := B0.cell 1 _ rfl
  have xB2_0 := B0.cell 2 _ rfl
  go_region_held3 (fun w' => w'.cell? ⟨H, 0, none⟩ = some (.int .i64 x0) ∧ w'.cell? ⟨H, 1, none⟩ = some (.int .i64 x1) ∧ w'.cell? ⟨H, 2, none⟩ = some (.int .i64 x2) ∧ w'.cell? ⟨H + 1, 0, none⟩ = some (.int .i64 a0) ∧ w'.cell? ⟨H + 1, 1, none⟩ = some (.int .i64 a1) ∧ w'.cell? ⟨H + 1, 2, none⟩ = some (.int .i64 a2) ∧ w'.cell? ⟨H + 1 + 1, 0, none⟩ = some (.int .i64 b0) ∧ w'.cell? ⟨H + 1 + 1, 1, none⟩ = some (.int .i64 b1) ∧ w'.cell? ⟨H + 1 + 1, 2, none⟩ = some (.int .i64 b2)) (first | with_reducible exact ⟨(far3 xX0_2 nRX), (far3 xX1_2 nRX), (far3 xX2_2 nRX), (far3 xA0_2 nRA), (far3 xA1_2 nRA), (far3 xA2_2 nRA), (far3 xB0_2 nRB), (far3 xB1_2 nRB), (far3 xB2_2 nRB)⟩ | with_reducible exact ⟨(far3d xX0_2 nRX), (far3d xX1_2 nRX), (far3d xX2_2 nRX), (far3d xA0_2 nRA), (far3d xA1_2 nRA), (far3d xA2_2 nRA), (far3d xB0_2 nRB), (far3d xB1_2 nRB), (far3d xB2_2 nRB)⟩ | with_reducible exact ⟨xX0_2, xX1_2, xX2_2, xA0_2, xA1_2, xA2_2, xB0_2, xB1_2, xB2_2⟩ | with_reducible exact ⟨xX0_1, xX1_1, xX2_1, xA0_1, xA1_1, xA2_1, xB0_1, xB1_1, xB2_1⟩ | with_reducible exact ⟨xX0_0, xX1_0, xX2_0, xA0_0, xA1_0, xA2_0, xB0_0, xB1_0, xB2_0⟩ | go_keep)
    (first
      | (go_at_call 40; (with_reducible refine (each_ends_pure _ a0 a1 a2 b0 b1 b2 ha0 ha1 ha2 hb0 hb1 hb2).mono ?_); rintro e w1 ⟨rfl, g1⟩; have G1 := G0.drew.then g1; have Z1 := g1.size; have X1 := X0.drew.gr g1 X0.lt; have A1 := A0.drew.gr g1 A0.lt; have B1 := B0.drew.gr g1 B0.lt; have R1 := R0.drew.gr g1 R0.lt; have xX0_1 := X1.cell 0 _ rfl; have xX1_1 := X1.cell 1 _ rfl; have xX2_1 := X1.cell 2 _ rfl; have xA0_1 := A1.cell 0 _ rfl; have xA1_1 := A1.cell 1 _ rfl; have xA2_1 := A1.cell 2 _ rfl; have xB0_1 := B1.cell 0 _ rfl; have xB1_1 := B1.cell 1 _ rfl; have xB2_1 := B1.cell 2 _ rfl)
      | (go_at_call 39; (with_reducible refine (each_kept_pure _ x0 x1 x2 a0 b0 a1 b1 a2 b2 hx0 hx1 hx2 ha0 hb0 ha1 hb1 ha2 hb2).mono ?_); rintro e w2 ⟨rfl, g2⟩; have G2 := G1.then g2; have Z2 := g2.size; have X2 := X1.gr g2 X1.lt; have A2 := A1.gr g2 A1.lt; have B2 := B1.gr g2 B1.lt; have R2 := R1.gr g2 R1.lt; have xX0_2 := X2.cell 0 _ rfl; have xX1_2 := X2.cell 1 _ rfl; have xX2_2 := X2.cell 2 _ rfl; have xA0_2 := A2.cell 0 _ rfl; have xA1_2 := A2.cell 1 _ rfl; have xA2_2 := A2.cell 2 _ rfl; have xB0_2 := B2.cell 0 _ rfl; have xB1_2 := B2.cell 1 _ rfl; have xB2_2 := B2.cell 2 _ rfl; have cR0 := R2.cell 0 _ rfl; have fR0 := R2.froz 0; have cR1 := R2.cell 1 _ rfl; have fR1 := R2.froz 1; have cR2 := R2.cell 2 _ rfl; have fR2 := R2.froz 2))
  go_wp2_with fail
  refine bodyPost_ret (v := .agg #[.int .i64 (clampI x0 a0 b0), .int .i64 (clampI x1 a1 b1), .int .i64 (clampI x2 a2 b2)]) (by simp [results, Try.results27, go_sem, cR0, cR1, cR2]) rfl ⟨rfl, ?_⟩
  exact (Gr.setCell (Gr.setCell (Gr.setCell G2 (by simp; omega) _) (by simp; omega) _) (by simp; omega) _)

end Go.Proofs.Ytajobokmddecmaa
