/-
  Layer 2 (vec), walked: Between, Near; the document's Between, Near.
-/
import Derived.Test.YtlfpgpfjdobpeaaVec3
import Derived.Test.YtlfpgpfjdobpeaaRefVec
import Derived.Test.YtlfpgpfjdobpeaaEq3
import Derived.Deep.DrawnRows
namespace Go.Proofs.Ytlfpgpfjdobpeaa
open Go.RowKit
attribute [local go_sem ↓] Go.wp_at_zero Go.wp_at_succ
attribute [local go_sem] eq3_run

/-- Is x between a and b? -/
def btwB (x a b : Int) : Bool := clampI x a b == x
theorem vbetween_any (x0 x1 x2 a0 a1 a2 b0 b1 b2 : Int) (hx0 : R64 x0) (hx1 : R64 x1) (hx2 : R64 x2) (ha0 : R64 a0) (ha1 : R64 a1) (ha2 : R64 a2) (hb0 : R64 b0) (hb1 : R64 b1) (hb2 : R64 b2) (w : World) :
    Calls Try.prog 21 #[.agg #[.int .i64 x0, .int .i64 x1, .int .i64 x2], .agg #[.int .i64 a0, .int .i64 a1, .int .i64 a2], .agg #[.int .i64 b0, .int .i64 b1, .int .i64 b2]] w
      fun e w' => e = .returned (.bool (btwB x0 a0 b0 && (btwB x1 a1 b1 && btwB x2 a2 b2))) ∧ Gr w.heap.size w w' := by
  obtain ⟨H, hH⟩ : ∃ H, w.heap.size = H := ⟨_, rfl⟩
  go_enter Try.func21, Try.ntmps21
  go_wp2_with fail
  obtain ⟨W, hW⟩ : ∃ W, (((w.alloc (.cells #[.int .i64 x0, .int .i64 x1, .int .i64 x2] 22)).alloc (.cells #[.int .i64 a0, .int .i64 a1, .int .i64 a2] 22)).alloc (.cells #[.int .i64 b0, .int .i64 b1, .int .i64 b2] 22)) = W := ⟨_, rfl⟩
  have X0 : Blk W (H) [.int .i64 x0, .int .i64 x1, .int .i64 x2] := by rw [← hW]; exact (((Blk.new _ _ _ hH.symm)).alloc _).alloc _
  have A0 : Blk W (H + 1) [.int .i64 a0, .int .i64 a1, .int .i64 a2] := by rw [← hW]; exact ((Blk.new _ _ _ (by simp [hH]))).alloc _
  have B0 : Blk W (H + 1 + 1) [.int .i64 b0, .int .i64 b1, .int .i64 b2] := by rw [← hW]; exact (Blk.new _ _ _ (by simp [hH]))
  have G0 : Gr w.heap.size w W := by rw [← hW]; repeat' (first | exact Gr.refl _ _ | refine Gr.alloc ?_ ?_ _ _ | (simp; done) | (simp; omega))
  have Z0 : W.heap.size = H + 1 + 1 + 1 := by rw [← hW]; simp [hH]
  rw [hW]
  clear hW
  have xX0_0 := X0.cell 0 _ rfl
  have xX1_0 := X0.cell 1 _ rfl
  have xX2_0 := X0.cell 2 _ rfl
  have xA0_0 := A0.cell 0 _ rfl
  have xA1_0 := A0.cell 1 _ rfl
  have xA2_0 := A0.cell 2 _ rfl
  have xB0_0 := B0.cell 0 _ rfl
  have xB1_0 := B0.cell 1 _ rfl
  have xB2_0 := B0.cell 2 _ rfl
  go_region_held3 (fun w' => w'.cell? ⟨H, 0, none⟩ = some (.int .i64 x0) ∧ w'.cell? ⟨H, 1, none⟩ = some (.int .i64 x1) ∧ w'.cell? ⟨H, 2, none⟩ = some (.int .i64 x2) ∧ w'.cell? ⟨H + 1, 0, none⟩ = some (.int .i64 a0) ∧ w'.cell? ⟨H + 1, 1, none⟩ = some (.int .i64 a1) ∧ w'.cell? ⟨H + 1, 2, none⟩ = some (.int .i64 a2) ∧ w'.cell? ⟨H + 1 + 1, 0, none⟩ = some (.int .i64 b0) ∧ w'.cell? ⟨H + 1 + 1, 1, none⟩ = some (.int .i64 b1) ∧ w'.cell? ⟨H + 1 + 1, 2, none⟩ = some (.int .i64 b2)) (first | with_reducible exact ⟨xX0_1, xX1_1, xX2_1, xA0_1, xA1_1, xA2_1, xB0_1, xB1_1, xB2_1⟩ | with_reducible exact ⟨xX0_0, xX1_0, xX2_0, xA0_0, xA1_0, xA2_0, xB0_0, xB1_0, xB2_0⟩ | go_keep)
    (first
      | (go_at_call 22; (with_reducible refine (vclamp_any x0 x1 x2 a0 a1 a2 b0 b1 b2 hx0 hx1 hx2 ha0 ha1 ha2 hb0 hb1 hb2 _).mono ?_); rintro e w1 ⟨rfl, g1⟩; have G1 := G0.drew.then g1; have Z1 := g1.size; have X1 := X0.drew.gr g1 X0.lt; have A1 := A0.drew.gr g1 A0.lt; have B1 := B0.drew.gr g1 B0.lt; have xX0_1 := X1.cell 0 _ rfl; have xX1_1 := X1.cell 1 _ rfl; have xX2_1 := X1.cell 2 _ rfl; have xA0_1 := A1.cell 0 _ rfl; have xA1_1 := A1.cell 1 _ rfl; have xA2_1 := A1.cell 2 _ rfl; have xB0_1 := B1.cell 0 _ rfl; have xB1_1 := B1.cell 1 _ rfl; have xB2_1 := B1.cell 2 _ rfl))
  go_wp2_with fail
  go_ret
  exact ⟨rfl, G1⟩
theorem rvbetween_any (x0 x1 x2 a0 a1 a2 b0 b1 b2 : Int)  (w : World) :
    Calls Try.prog 24 #[.agg #[.int .i64 x0, .int .i64 x1, .int .i64 x2], .agg #[.int .i64 a0, .int .i64 a1, .int .i64 a2], .agg #[.int .i64 b0, .int .i64 b1, .int .i64 b2]] w
      fun e w' => e = .returned (.bool (btwB x0 a0 b0 && (btwB x1 a1 b1 && btwB x2 a2 b2))) ∧ Gr w.heap.size w w' := by
  obtain ⟨H, hH⟩ : ∃ H, w.heap.size = H := ⟨_, rfl⟩
  go_enter Try.func24, Try.ntmps24
  go_wp2_with fail
  obtain ⟨W, hW⟩ : ∃ W, (((w.alloc (.cells #[.int .i64 x0, .int .i64 x1, .int .i64 x2] 22)).alloc (.cells #[.int .i64 a0, .int .i64 a1, .int .i64 a2] 22)).alloc (.cells #[.int .i64 b0, .int .i64 b1, .int .i64 b2] 22)) = W := ⟨_, rfl⟩
  have X0 : Blk W (H) [.int .i64 x0, .int .i64 x1, .int .i64 x2] := by rw [← hW]; exact (((Blk.new _ _ _ hH.symm)).alloc _).alloc _
  have A0 : Blk W (H + 1) [.int .i64 a0, .int .i64 a1, .int .i64 a2] := by rw [← hW]; exact ((Blk.new _ _ _ (by simp [hH]))).alloc _
  have B0 : Blk W (H + 1 + 1) [.int .i64 b0, .int .i64 b1, .int .i64 b2] := by rw [← hW]; exact (Blk.new _ _ _ (by simp [hH]))
  have G0 : Gr w.heap.size w W := by rw [← hW]; repeat' (first | exact Gr.refl _ _ | refine Gr.alloc ?_ ?_ _ _ | (simp; done) | (simp; omega))
  have Z0 : W.heap.size = H + 1 + 1 + 1 := by rw [← hW]; simp [hH]
  rw [hW]
  clear hW
  have xX0_0 := X0.cell 0 _ rfl
  have xX1_0 := X0.cell 1 _ rfl
  have xX2_0 := X0.cell 2 _ rfl
  have xA0_0 := A0.cell 0 _ rfl
  have xA1_0 := A0.cell 1 _ rfl
  have xA2_0 := A0.cell 2 _ rfl
  have xB0_0 := B0.cell 0 _ rfl
  have xB1_0 := B0.cell 1 _ rfl
  have xB2_0 := B0.cell 2 _ rfl
  go_region_held3 (fun w' => w'.cell? ⟨H, 0, none⟩ = some (.int .i64 x0) ∧ w'.cell? ⟨H, 1, none⟩ = some (.int .i64 x1) ∧ w'.cell? ⟨H, 2, none⟩ = some (.int .i64 x2) ∧ w'.cell? ⟨H + 1, 0, none⟩ = some (.int .i64 a0) ∧ w'.cell? ⟨H + 1, 1, none⟩ = some (.int .i64 a1) ∧ w'.cell? ⟨H + 1, 2, none⟩ = some (.int .i64 a2) ∧ w'.cell? ⟨H + 1 + 1, 0, none⟩ = some (.int .i64 b0) ∧ w'.cell? ⟨H + 1 + 1, 1, none⟩ = some (.int .i64 b1) ∧ w'.cell? ⟨H + 1 + 1, 2, none⟩ = some (.int .i64 b2)) (first | with_reducible exact ⟨xX0_1, xX1_1, xX2_1, xA0_1, xA1_1, xA2_1, xB0_1, xB1_1, xB2_1⟩ | with_reducible exact ⟨xX0_0, xX1_0, xX2_0, xA0_0, xA1_0, xA2_0, xB0_0, xB1_0, xB2_0⟩ | go_keep)
    (first
      | (go_at_call 23; (with_reducible refine (rvclamp_any x0 x1 x2 a0 a1 a2 b0 b1 b2 _).mono ?_); rintro e w1 ⟨rfl, g1⟩; have G1 := G0.drew.then g1; have Z1 := g1.size; have X1 := X0.drew.gr g1 X0.lt; have A1 := A0.drew.gr g1 A0.lt; have B1 := B0.drew.gr g1 B0.lt; have xX0_1 := X1.cell 0 _ rfl; have xX1_1 := X1.cell 1 _ rfl; have xX2_1 := X1.cell 2 _ rfl; have xA0_1 := A1.cell 0 _ rfl; have xA1_1 := A1.cell 1 _ rfl; have xA2_1 := A1.cell 2 _ rfl; have xB0_1 := B1.cell 0 _ rfl; have xB1_1 := B1.cell 1 _ rfl; have xB2_1 := B1.cell 2 _ rfl))
  go_wp2_with fail
  go_ret
  exact ⟨rfl, G1⟩
/-- Are two vectors no further apart than d? -/
def nearB (a0 a1 a2 b0 b1 b2 d : Int) : Bool := decide (0 ≤ d ∧ apartI a0 b0 ≤ d ∧ apartI a1 b1 ≤ d ∧ apartI a2 b2 ≤ d)
theorem apart_bd {a b : Int} (ha : R64 a) (hb : R64 b) : 0 ≤ apartI a b ∧ apartI a b ≤ 18446744073709551615 := by
  unfold R64 at ha hb; unfold apartI; omega
theorem vnear_any (a0 a1 a2 b0 b1 b2 d : Int) (ha0 : R64 a0) (ha1 : R64 a1) (ha2 : R64 a2) (hb0 : R64 b0) (hb1 : R64 b1) (hb2 : R64 b2) (hd : R64 d) (w : World) :
    Calls Try.prog 25 #[.agg #[.int .i64 a0, .int .i64 a1, .int .i64 a2], .agg #[.int .i64 b0, .int .i64 b1, .int .i64 b2], .int .i64 d] w
      fun e w' => e = .returned (.bool (nearB a0 a1 a2 b0 b1 b2 d)) ∧ Gr w.heap.size w w' := by
  obtain ⟨p0, p0'⟩ := apart_bd ha0 hb0
  obtain ⟨p1, p1'⟩ := apart_bd ha1 hb1
  obtain ⟨p2, p2'⟩ := apart_bd ha2 hb2
  obtain ⟨q0, hq0⟩ : ∃ q, apartI a0 b0 = q := ⟨_, rfl⟩
  obtain ⟨q1, hq1⟩ : ∃ q, apartI a1 b1 = q := ⟨_, rfl⟩
  obtain ⟨q2, hq2⟩ : ∃ q, apartI a2 b2 = q := ⟨_, rfl⟩
  have hN : nearB a0 a1 a2 b0 b1 b2 d = decide (0 ≤ d ∧ q0 ≤ d ∧ q1 ≤ d ∧ q2 ≤ d) := by rw [← hq0, ← hq1, ← hq2]; rfl
  rw [hq0] at p0 p0'
  rw [hq1] at p1 p1'
  rw [hq2] at p2 p2'
  have d1 := hd.1
  have d2 := hd.2
  have Q0 := (show Hid _ from hq0)
  have Q1 := (show Hid _ from hq1)
  have Q2 := (show Hid _ from hq2)
  have HN := (show Hid _ from hN)
  clear hq0 hq1 hq2 hN
  go_enter Try.func25, Try.ntmps25
  go_wp2_with fail
  refine (each_apart_pure _ a0 a1 a2 b0 b1 b2 ha0 ha1 ha2 hb0 hb1 hb2).mono ?_
  rw [Q0.out, Q1.out, Q2.out]
  rintro e w1 ⟨rfl, g1⟩
  have z1 := g1.size
  simp at z1
  have g2 : Gr w.heap.size w w1 := ((((Gr.refl _ _).alloc (Nat.le_refl _) _ _).alloc (by simp) _ _).then g1)
  by_cases hn : 0 ≤ d
  · have hc : decide (d ≥ 0) = true := by simpa using hn
    have hw : IntKind.u64.wrap d = d := by rw [u64_eq]; omega
    go_wp2_with fail
    all_goals (go_ret; refine ⟨ret_bool ?_, g2.alloc (by omega) _ _⟩; rw [HN.out]; refine decide_eq_decide.2 ?_; (try split at *) <;> omega)
  · have hc : decide (d ≥ 0) = false := by simpa using hn
    go_wp2_with fail
    go_ret
    refine ⟨ret_bool ?_, g2.alloc (by omega) _ _⟩
    rw [HN.out]; symm; refine decide_eq_false ?_; omega
theorem rapart_any (a b : Int) (ha : R64 a) (hb : R64 b) (w : World) :
    Calls Try.prog 44 #[.int .i64 a, .int .i64 b] w fun e w' => e = .returned (.int .u64 (apartI a b)) ∧ w' = w := by
  unfold R64 at ha hb
  obtain ⟨a1, a2⟩ := ha
  obtain ⟨b1, b2⟩ := hb
  go_enter Try.func44, Try.ntmps44
  go_wp2
  all_goals (go_ret; refine ⟨ret_int ?_, rfl⟩; unfold apartI; simp only [u64_eq]; omega)
set_option maxHeartbeats 1000000 in
theorem rvnear_any (a0 a1 a2 b0 b1 b2 d : Int) (ha0 : R64 a0) (ha1 : R64 a1) (ha2 : R64 a2) (hb0 : R64 b0) (hb1 : R64 b1) (hb2 : R64 b2) (hd : R64 d) (w : World) :
    Calls Try.prog 26 #[.agg #[.int .i64 a0, .int .i64 a1, .int .i64 a2], .agg #[.int .i64 b0, .int .i64 b1, .int .i64 b2], .int .i64 d] w
      fun e w' => e = .returned (.bool (nearB a0 a1 a2 b0 b1 b2 d)) ∧ Gr w.heap.size w w' := by
  obtain ⟨p0, p0'⟩ := apart_bd ha0 hb0
  obtain ⟨p1, p1'⟩ := apart_bd ha1 hb1
  obtain ⟨p2, p2'⟩ := apart_bd ha2 hb2
  obtain ⟨q0, hq0⟩ : ∃ q, apartI a0 b0 = q := ⟨_, rfl⟩
  obtain ⟨q1, hq1⟩ : ∃ q, apartI a1 b1 = q := ⟨_, rfl⟩
  obtain ⟨q2, hq2⟩ : ∃ q, apartI a2 b2 = q := ⟨_, rfl⟩
  have hN : nearB a0 a1 a2 b0 b1 b2 d = decide (0 ≤ d ∧ q0 ≤ d ∧ q1 ≤ d ∧ q2 ≤ d) := by rw [← hq0, ← hq1, ← hq2]; rfl
  rw [hq0] at p0 p0'
  rw [hq1] at p1 p1'
  rw [hq2] at p2 p2'
  have d1 := hd.1
  have d2 := hd.2
  have Q0 := (show Hid _ from hq0)
  have Q1 := (show Hid _ from hq1)
  have Q2 := (show Hid _ from hq2)
  have HN := (show Hid _ from hN)
  clear hq0 hq1 hq2 hN
  obtain ⟨H, hH⟩ : ∃ H, w.heap.size = H := ⟨_, rfl⟩
  by_cases hn : d < 0
  · go_enter Try.func26, Try.ntmps26
    go_wp2_with fail
    go_ret
    refine ⟨ret_bool ?_, ((Gr.refl _ _).alloc (Nat.le_refl _) _ _).alloc (by simp) _ _⟩
    rw [HN.out]; symm; refine decide_eq_false ?_; omega
  have hw : IntKind.u64.wrap d = d := by rw [u64_eq]; omega
  have hn' : 0 ≤ d := by omega
  clear hn
  go_enter Try.func26, Try.ntmps26
  go_wp2_with fail
  obtain ⟨W, hW⟩ : ∃ W, ((w.alloc (.cells #[.int .i64 a0, .int .i64 a1, .int .i64 a2] 22)).alloc (.cells #[.int .i64 b0, .int .i64 b1, .int .i64 b2] 22)) = W := ⟨_, rfl⟩
  have A0 : Blk W (H) [.int .i64 a0, .int .i64 a1, .int .i64 a2] := by rw [← hW]; exact ((Blk.new _ _ _ hH.symm)).alloc _
  have B0 : Blk W (H + 1) [.int .i64 b0, .int .i64 b1, .int .i64 b2] := by rw [← hW]; exact (Blk.new _ _ _ (by simp [hH]))
  have G0 : Gr w.heap.size w W := by rw [← hW]; repeat' (first | exact Gr.refl _ _ | refine Gr.alloc ?_ ?_ _ _ | (simp; done) | (simp; omega))
  have Z0 : W.heap.size = H + 1 + 1 := by rw [← hW]; simp [hH]
  rw [hW]
  clear hW
  refine wp_loop_rounds 4 ?_
  rw [rounds_succ]
  go_wp2_with fail
  have xA0_0 := A0.cell 0 _ rfl
  have xA1_0 := A0.cell 1 _ rfl
  have xA2_0 := A0.cell 2 _ rfl
  have xB0_0 := B0.cell 0 _ rfl
  have xB1_0 := B0.cell 1 _ rfl
  have xB2_0 := B0.cell 2 _ rfl
  go_region_held3 (fun w' => w'.cell? ⟨H, 0, none⟩ = some (.int .i64 a0) ∧ w'.cell? ⟨H, 1, none⟩ = some (.int .i64 a1) ∧ w'.cell? ⟨H, 2, none⟩ = some (.int .i64 a2) ∧ w'.cell? ⟨H + 1, 0, none⟩ = some (.int .i64 b0) ∧ w'.cell? ⟨H + 1, 1, none⟩ = some (.int .i64 b1) ∧ w'.cell? ⟨H + 1, 2, none⟩ = some (.int .i64 b2)) (first | with_reducible exact ⟨xA0_1, xA1_1, xA2_1, xB0_1, xB1_1, xB2_1⟩ | with_reducible exact ⟨xA0_0, xA1_0, xA2_0, xB0_0, xB1_0, xB2_0⟩ | go_keep)
    (first
      | (go_at_call 44; (with_reducible refine (rapart_any a0 b0 ha0 hb0 _).mono ?_); rw [Q0.out]; rintro e w1 ⟨rfl, g1⟩; subst g1; have G1 := G0.drew; have Z1 := Z0; have A1 := A0; have B1 := B0; have xA0_1 := A1.cell 0 _ rfl; have xA1_1 := A1.cell 1 _ rfl; have xA2_1 := A1.cell 2 _ rfl; have xB0_1 := B1.cell 0 _ rfl; have xB1_1 := B1.cell 1 _ rfl; have xB2_1 := B1.cell 2 _ rfl))
  by_cases t0 : d < q0
  · go_wp2_with fail
    go_ret
    refine ⟨ret_bool ?_, G1⟩
    rw [HN.out]; symm; refine decide_eq_false ?_; omega
  have t0' : q0 ≤ d := by omega
  clear t0
  go_wp2_with fail
  rw [rounds_succ]
  go_wp2_with fail
  have xA0_1 := A1.cell 0 _ rfl
  have xA1_1 := A1.cell 1 _ rfl
  have xA2_1 := A1.cell 2 _ rfl
  have xB0_1 := B1.cell 0 _ rfl
  have xB1_1 := B1.cell 1 _ rfl
  have xB2_1 := B1.cell 2 _ rfl
  go_region_held3 (fun w' => w'.cell? ⟨H, 0, none⟩ = some (.int .i64 a0) ∧ w'.cell? ⟨H, 1, none⟩ = some (.int .i64 a1) ∧ w'.cell? ⟨H, 2, none⟩ = some (.int .i64 a2) ∧ w'.cell? ⟨H + 1, 0, none⟩ = some (.int .i64 b0) ∧ w'.cell? ⟨H + 1, 1, none⟩ = some (.int .i64 b1) ∧ w'.cell? ⟨H + 1, 2, none⟩ = some (.int .i64 b2)) (first | with_reducible exact ⟨xA0_2, xA1_2, xA2_2, xB0_2, xB1_2, xB2_2⟩ | with_reducible exact ⟨xA0_1, xA1_1, xA2_1, xB0_1, xB1_1, xB2_1⟩ | go_keep)
    (first
      | (go_at_call 44; (with_reducible refine (rapart_any a1 b1 ha1 hb1 _).mono ?_); rw [Q1.out]; rintro e w2 ⟨rfl, g2⟩; subst g2; have G2 := G1.drew; have Z2 := Z1; have A2 := A1; have B2 := B1; have xA0_2 := A2.cell 0 _ rfl; have xA1_2 := A2.cell 1 _ rfl; have xA2_2 := A2.cell 2 _ rfl; have xB0_2 := B2.cell 0 _ rfl; have xB1_2 := B2.cell 1 _ rfl; have xB2_2 := B2.cell 2 _ rfl))
  by_cases t1 : d < q1
  · go_wp2_with fail
    go_ret
    refine ⟨ret_bool ?_, G2⟩
    rw [HN.out]; symm; refine decide_eq_false ?_; omega
  have t1' : q1 ≤ d := by omega
  clear t1
  go_wp2_with fail
  rw [rounds_succ]
  go_wp2_with fail
  have xA0_2 := A2.cell 0 _ rfl
  have xA1_2 := A2.cell 1 _ rfl
  have xA2_2 := A2.cell 2 _ rfl
  have xB0_2 := B2.cell 0 _ rfl
  have xB1_2 := B2.cell 1 _ rfl
  have xB2_2 := B2.cell 2 _ rfl
  go_region_held3 (fun w' => w'.cell? ⟨H, 0, none⟩ = some (.int .i64 a0) ∧ w'.cell? ⟨H, 1, none⟩ = some (.int .i64 a1) ∧ w'.cell? ⟨H, 2, none⟩ = some (.int .i64 a2) ∧ w'.cell? ⟨H + 1, 0, none⟩ = some (.int .i64 b0) ∧ w'.cell? ⟨H + 1, 1, none⟩ = some (.int .i64 b1) ∧ w'.cell? ⟨H + 1, 2, none⟩ = some (.int .i64 b2)) (first | with_reducible exact ⟨xA0_3, xA1_3, xA2_3, xB0_3, xB1_3, xB2_3⟩ | with_reducible exact ⟨xA0_2, xA1_2, xA2_2, xB0_2, xB1_2, xB2_2⟩ | go_keep)
    (first
      | (go_at_call 44; (with_reducible refine (rapart_any a2 b2 ha2 hb2 _).mono ?_); rw [Q2.out]; rintro e w3 ⟨rfl, g3⟩; subst g3; have G3 := G2.drew; have Z3 := Z2; have A3 := A2; have B3 := B2; have xA0_3 := A3.cell 0 _ rfl; have xA1_3 := A3.cell 1 _ rfl; have xA2_3 := A3.cell 2 _ rfl; have xB0_3 := B3.cell 0 _ rfl; have xB1_3 := B3.cell 1 _ rfl; have xB2_3 := B3.cell 2 _ rfl))
  by_cases t2 : d < q2
  · go_wp2_with fail
    go_ret
    refine ⟨ret_bool ?_, G3⟩
    rw [HN.out]; symm; refine decide_eq_false ?_; omega
  have t2' : q2 ≤ d := by omega
  clear t2
  go_wp2_with fail
  rw [rounds_succ]
  go_wp2_with fail
  go_ret
  refine ⟨ret_bool ?_, G3⟩
  rw [HN.out]; symm; refine decide_eq_true ?_; omega
end Go.Proofs.Ytlfpgpfjdobpeaa
