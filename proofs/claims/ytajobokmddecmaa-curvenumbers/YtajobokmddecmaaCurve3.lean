/-
  Layer 4 (curve): the number on a curve, by the code and by the document.
-/
import Derived.Test.YtajobokmddecmaaCurve2
namespace Go.Proofs.Ytajobokmddecmaa
open Go.RowKit
attribute [local go_sem ↓] Go.wp_at_zero Go.wp_at_succ

theorem added_any (a x p y q z r : Int) (ha : R64 a) (hx : R64 x) (hp : R64 p) (hy : R64 y) (hq : R64 q) (hz : R64 z) (hr : R64 r) (b : Nat) (w : World) (B0 : Blk w b [.int .i64 x, .int .i64 p, .int .i64 y, .int .i64 q, .int .i64 z, .int .i64 r]) :
    Calls Try.prog 20 #[.int .i64 a, .slice (some ⟨b, 0, none⟩) 3 3] w fun e w' => e = .returned (.int .i64 (sat (sat (sat (a + sat (x * p / 65536)) + sat (y * q / 65536)) + sat (z * r / 65536)))) ∧ Gr w.heap.size w w' := by
  obtain ⟨m1, hm1⟩ : ∃ m, sat (x * p / 65536) = m := ⟨_, rfl⟩
  obtain ⟨m2, hm2⟩ : ∃ m, sat (y * q / 65536) = m := ⟨_, rfl⟩
  obtain ⟨m3, hm3⟩ : ∃ m, sat (z * r / 65536) = m := ⟨_, rfl⟩
  rw [hm1, hm2, hm3]
  obtain ⟨s1, hs1⟩ : ∃ m, sat (a + m1) = m := ⟨_, rfl⟩
  rw [hs1]
  obtain ⟨s2, hs2⟩ : ∃ m, sat (s1 + m2) = m := ⟨_, rfl⟩
  rw [hs2]
  obtain ⟨s3, hs3⟩ : ∃ m, sat (s2 + m3) = m := ⟨_, rfl⟩
  rw [hs3]
  have rm1 : R64 m1 := hm1 ▸ sat_bd _
  have rm2 : R64 m2 := hm2 ▸ sat_bd _
  have rm3 : R64 m3 := hm3 ▸ sat_bd _
  have rs1 : R64 s1 := hs1 ▸ sat_bd _
  have rs2 : R64 s2 := hs2 ▸ sat_bd _
  have M1 := (show Hid _ from hm1); have M2 := (show Hid _ from hm2); have M3 := (show Hid _ from hm3)
  have S1 := (show Hid _ from hs1); have S2 := (show Hid _ from hs2); have S3 := (show Hid _ from hs3)
  clear hm1 hm2 hm3 hs1 hs2 hs3
  go_enter Try.func20, Try.ntmps20
  go_wp2_with fail
  refine wp_loop_rounds 4 ?_
  have G0 : Gr w.heap.size w w := Gr.refl _ _
  rw [rounds_succ]
  have c0 := B0.cell 0 _ rfl; have c1 := B0.cell 1 _ rfl
  go_wp2_with fail
  have A1 : Gr w.heap.size w (w.alloc (.cells #[.int .i64 x, .int .i64 p] 48)) := G0.then ((Gr.refl _ _).alloc (Nat.le_refl _) _ _)
  refine (mul_any x p hx hp _).mono ?_; rw [M1.out]; rintro e v1 ⟨rfl, g⟩
  have B := (B0.alloc (.cells #[.int .i64 x, .int .i64 p] 48)).gr g (B0.alloc _).lt
  have C1 := A1.then g; clear g
  go_wp2_with fail
  refine (add_any a m1 ha rm1 _).mono ?_; rw [S1.out]; rintro e w1 ⟨rfl, g⟩
  have B1 := B.gr g B.lt; clear B c0 c1
  have G1 := C1.then g; clear g
  go_wp2_with fail
  rw [rounds_succ]
  have c0 := B1.cell 2 _ rfl; have c1 := B1.cell 3 _ rfl
  go_wp2_with fail
  have A2 : Gr w.heap.size w (w1.alloc (.cells #[.int .i64 y, .int .i64 q] 48)) := G1.then ((Gr.refl _ _).alloc (Nat.le_refl _) _ _)
  refine (mul_any y q hy hq _).mono ?_; rw [M2.out]; rintro e v2 ⟨rfl, g⟩
  have B := (B1.alloc (.cells #[.int .i64 y, .int .i64 q] 48)).gr g (B1.alloc _).lt
  have C2 := A2.then g; clear g
  go_wp2_with fail
  refine (add_any s1 m2 rs1 rm2 _).mono ?_; rw [S2.out]; rintro e w2 ⟨rfl, g⟩
  have B2 := B.gr g B.lt; clear B c0 c1
  have G2 := C2.then g; clear g
  go_wp2_with fail
  rw [rounds_succ]
  have c0 := B2.cell 4 _ rfl; have c1 := B2.cell 5 _ rfl
  go_wp2_with fail
  have A3 : Gr w.heap.size w (w2.alloc (.cells #[.int .i64 z, .int .i64 r] 48)) := G2.then ((Gr.refl _ _).alloc (Nat.le_refl _) _ _)
  refine (mul_any z r hz hr _).mono ?_; rw [M3.out]; rintro e v3 ⟨rfl, g⟩
  have B := (B2.alloc (.cells #[.int .i64 z, .int .i64 r] 48)).gr g (B2.alloc _).lt
  have C3 := A3.then g; clear g
  go_wp2_with fail
  refine (add_any s2 m3 rs2 rm3 _).mono ?_; rw [S3.out]; rintro e w3 ⟨rfl, g⟩
  have B3 := B.gr g B.lt; clear B c0 c1
  have G3 := C3.then g; clear g
  go_wp2_with fail
  rw [rounds_succ]
  go_wp2_with fail
  go_ret
  exact ⟨rfl, G3⟩
theorem at_mid (a v b w num den : Int) (ha : R64 a) (hv : R64 v) (hb : R64 b) (hw : R64 w) (h : fineB num den = true) (n0 : num ≠ 0) (n1 : num ≠ den) (W : World) :
    Calls Try.prog 11 #[.int .i64 a, .int .i64 v, .int .i64 b, .int .i64 w, .int .i64 num, .int .i64 den] W fun e W' => e = .returned (.tuple #[.int .i64 (clampI (freeI a v b w (num * 65536 / den) den) a b), .int .i64 0]) ∧ Gr W.heap.size W W' := by
  have p0 := part_le h
  have rd : R64 den := by have := fineB_true h; unfold R64; omega
  have HF := (show Hid _ from h); clear h
  obtain ⟨u, hu⟩ : ∃ u, num * 65536 / den = u := ⟨_, rfl⟩
  rw [hu] at p0 ⊢
  have HU := (show Hid _ from hu); clear hu
  obtain ⟨u0, u1⟩ := p0
  unfold freeI
  obtain ⟨x, hx⟩ : ∃ x, wayW u = x := ⟨_, rfl⟩
  obtain ⟨y, hy⟩ : ∃ y, firstW u = y := ⟨_, rfl⟩
  obtain ⟨z, hz⟩ : ∃ z, lastW u = z := ⟨_, rfl⟩
  rw [hx, hy, hz]
  have bd := weights_bd u0 u1
  rw [hx, hy, hz] at bd
  have HX := (show Hid _ from hx); have HY := (show Hid _ from hy); have HZ := (show Hid _ from hz)
  obtain ⟨p, hp⟩ : ∃ p, sat (b - a) = p := ⟨_, rfl⟩
  obtain ⟨q, hq⟩ : ∃ q, sat (v * den / 65536) = q := ⟨_, rfl⟩
  obtain ⟨r, hr⟩ : ∃ r, sat (w * den / 65536) = r := ⟨_, rfl⟩
  rw [hp, hq, hr]
  have rp : R64 p := hp ▸ sat_bd _
  have rq : R64 q := hq ▸ sat_bd _
  have rr : R64 r := hr ▸ sat_bd _
  obtain ⟨N, hN⟩ : ∃ N, sat (sat (sat (a + sat (x * p / 65536)) + sat (y * q / 65536)) + sat (z * r / 65536)) = N := ⟨_, rfl⟩
  rw [hN]
  have HN := (show Hid _ from hN)
  have rx : R64 x := by unfold R64; omega
  have ry : R64 y := by unfold R64; omega
  have rz : R64 z := by unfold R64; omega
  clear hN bd
  have HP := (show Hid _ from hp); have HQ := (show Hid _ from hq); have HR := (show Hid _ from hr)
  clear hx hy hz hp hq hr
  go_enter Try.func11, Try.ntmps11
  go_wp2_with fail
  refine (part_any num den HF.out _).mono ?_; rw [HU.out]; rintro e w1 ⟨rfl, g1⟩
  go_wp2_with fail
  refine (weights_any u u0 u1 _).mono ?_; rw [HX.out, HY.out, HZ.out]; rintro e w2 ⟨rfl, g2⟩
  go_wp2_with fail
  refine (sub_any b a hb ha _).mono ?_; rw [HP.out]; rintro e w3 ⟨rfl, g3⟩
  go_wp2_with fail
  refine (mul_any v den hv rd _).mono ?_; rw [HQ.out]; rintro e w4 ⟨rfl, g4⟩
  go_wp2_with fail
  refine (mul_any w den hw rd _).mono ?_; rw [HR.out]; rintro e w5 ⟨rfl, g5⟩
  go_wp2_with fail
  refine (added_any a x p y q z r ha rx rp ry rq rz rr _ _ (Blk.new _ _ _ rfl)).mono ?_; rw [HN.out]; rintro e w6 ⟨rfl, g6⟩
  go_wp2_with fail
  refine (clamp_any N a b _).mono ?_; rintro e w7 ⟨rfl, rfl⟩
  go_wp2_with fail
  go_ret2
  exact ⟨rfl, (((((g1.then g2).then g3).then g4).then g5).alloc (Nat.le_trans (g1.then g2 |>.then g3 |>.then g4 |>.then g5).size (Nat.le_refl _)) _ _).then g6⟩
theorem at_first (a v b w den : Int) (h : fineB 0 den = true) (W : World) :
    Calls Try.prog 11 #[.int .i64 a, .int .i64 v, .int .i64 b, .int .i64 w, .int .i64 0, .int .i64 den] W fun e W' => e = .returned (.tuple #[.int .i64 a, .int .i64 0]) ∧ Gr W.heap.size W W' := by
  have HF := (show Hid _ from h); clear h
  go_enter Try.func11, Try.ntmps11
  go_wp2_with fail
  refine (part_any 0 den HF.out _).mono ?_; rintro e w1 ⟨rfl, g1⟩
  go_wp2_with fail
  go_ret2
  exact ⟨rfl, g1⟩
theorem at_last (a v b w den : Int) (h : fineB den den = true) (W : World) :
    Calls Try.prog 11 #[.int .i64 a, .int .i64 v, .int .i64 b, .int .i64 w, .int .i64 den, .int .i64 den] W fun e W' => e = .returned (.tuple #[.int .i64 b, .int .i64 0]) ∧ Gr W.heap.size W W' := by
  have hd : 1 ≤ den := (fineB_true h).2.2.1
  have HF := (show Hid _ from h); clear h
  go_enter Try.func11, Try.ntmps11
  go_wp2_with fail
  refine (part_any den den HF.out _).mono ?_; rintro e w1 ⟨rfl, g1⟩
  go_wp2_with fail
  go_ret2
  exact ⟨rfl, g1⟩
theorem at_no (a v b w num den : Int) (h : fineB num den = false) (W : World) :
    Calls Try.prog 11 #[.int .i64 a, .int .i64 v, .int .i64 b, .int .i64 w, .int .i64 num, .int .i64 den] W fun e W' => e = .returned (.tuple #[.int .i64 0, .int .i64 3]) ∧ W' = W := by
  have HF := (show Hid _ from h); clear h
  go_enter Try.func11, Try.ntmps11
  go_wp2_with fail
  refine (part_no num den HF.out _).mono ?_; rintro e w1 ⟨rfl, rfl⟩
  go_wp2_with fail
  go_ret2
  exact ⟨rfl, rfl⟩
theorem at_any (a v b w num den : Int) (ha : R64 a) (hv : R64 v) (hb : R64 b) (hw : R64 w) (h : fineB num den = true) (W : World) :
    Calls Try.prog 11 #[.int .i64 a, .int .i64 v, .int .i64 b, .int .i64 w, .int .i64 num, .int .i64 den] W fun e W' => e = .returned (.tuple #[.int .i64 (curveI a v b w num den), .int .i64 0]) ∧ Gr W.heap.size W W' := by
  by_cases n0 : num = 0
  · subst n0; rw [curve_first]; exact at_first a v b w den h W
  · by_cases n1 : num = den
    · subst n1; rw [curve_last _ _ _ _ _ (fineB_true h).2.2.1]; exact at_last a v b w num h W
    · unfold curveI; rw [if_neg n0, if_neg n1]; exact at_mid a v b w num den ha hv hb hw h n0 n1 W

theorem rat_first (a v b w den : Int) (W : World) :
    Calls Try.prog 13 #[.int .i64 a, .int .i64 v, .int .i64 b, .int .i64 w, .int .i64 0, .int .i64 den] W fun e W' => e = .returned (.int .i64 a) ∧ W' = W := by
  go_enter Try.func13, Try.ntmps13
  go_wp2_with fail
  go_ret
  exact ⟨rfl, rfl⟩
theorem rat_last (a v b w den : Int) (hd : 1 ≤ den) (W : World) :
    Calls Try.prog 13 #[.int .i64 a, .int .i64 v, .int .i64 b, .int .i64 w, .int .i64 den, .int .i64 den] W fun e W' => e = .returned (.int .i64 b) ∧ W' = W := by
  go_enter Try.func13, Try.ntmps13
  go_wp2_with fail
  go_ret
  exact ⟨rfl, rfl⟩
theorem rat_mid (a v b w num den : Int) (ha : R64 a) (hv : R64 v) (hb : R64 b) (hw : R64 w) (h : fineB num den = true) (n0 : num ≠ 0) (n1 : num ≠ den) (W : World) :
    Calls Try.prog 13 #[.int .i64 a, .int .i64 v, .int .i64 b, .int .i64 w, .int .i64 num, .int .i64 den] W fun e W' => e = .returned (.int .i64 (clampI (freeI a v b w (num * 65536 / den) den) a b)) ∧ W' = W := by
  have p0 := part_le h
  have rd : R64 den := by have := fineB_true h; unfold R64; omega
  have HF := (show Hid _ from h); clear h
  obtain ⟨u, hu⟩ : ∃ u, num * 65536 / den = u := ⟨_, rfl⟩
  rw [hu] at p0 ⊢
  have HU := (show Hid _ from hu); clear hu
  obtain ⟨u0, u1⟩ := p0
  unfold freeI
  obtain ⟨x, hx⟩ : ∃ x, wayW u = x := ⟨_, rfl⟩
  obtain ⟨y, hy⟩ : ∃ y, firstW u = y := ⟨_, rfl⟩
  obtain ⟨z, hz⟩ : ∃ z, lastW u = z := ⟨_, rfl⟩
  rw [hx, hy, hz]
  have bd := weights_bd u0 u1
  rw [hx, hy, hz] at bd
  have HX := (show Hid _ from hx); have HY := (show Hid _ from hy); have HZ := (show Hid _ from hz)
  obtain ⟨p, hp⟩ : ∃ p, sat (b - a) = p := ⟨_, rfl⟩
  obtain ⟨q, hq⟩ : ∃ q, sat (v * den / 65536) = q := ⟨_, rfl⟩
  obtain ⟨r, hr⟩ : ∃ r, sat (w * den / 65536) = r := ⟨_, rfl⟩
  rw [hp, hq, hr]
  have rp : R64 p := hp ▸ sat_bd _
  have rq : R64 q := hq ▸ sat_bd _
  have rr : R64 r := hr ▸ sat_bd _
  obtain ⟨m1, hm1⟩ : ∃ m, sat (x * p / 65536) = m := ⟨_, rfl⟩
  obtain ⟨m2, hm2⟩ : ∃ m, sat (y * q / 65536) = m := ⟨_, rfl⟩
  obtain ⟨m3, hm3⟩ : ∃ m, sat (z * r / 65536) = m := ⟨_, rfl⟩
  rw [hm1, hm2, hm3]
  obtain ⟨s1, hs1⟩ : ∃ m, sat (a + m1) = m := ⟨_, rfl⟩
  rw [hs1]
  obtain ⟨s2, hs2⟩ : ∃ m, sat (s1 + m2) = m := ⟨_, rfl⟩
  rw [hs2]
  obtain ⟨s3, hs3⟩ : ∃ m, sat (s2 + m3) = m := ⟨_, rfl⟩
  rw [hs3]
  have rm1 : R64 m1 := hm1 ▸ sat_bd _
  have rm2 : R64 m2 := hm2 ▸ sat_bd _
  have rm3 : R64 m3 := hm3 ▸ sat_bd _
  have rs1 : R64 s1 := hs1 ▸ sat_bd _
  have rs2 : R64 s2 := hs2 ▸ sat_bd _
  have M1 := (show Hid _ from hm1); have M2 := (show Hid _ from hm2); have M3 := (show Hid _ from hm3)
  have S1 := (show Hid _ from hs1); have S2 := (show Hid _ from hs2); have S3 := (show Hid _ from hs3)
  clear hm1 hm2 hm3 hs1 hs2 hs3
  have rx : R64 x := by unfold R64; omega
  have ry : R64 y := by unfold R64; omega
  have rz : R64 z := by unfold R64; omega
  clear bd
  have HP := (show Hid _ from hp); have HQ := (show Hid _ from hq); have HR := (show Hid _ from hr)
  clear hx hy hz hp hq hr
  go_enter Try.func13, Try.ntmps13
  go_wp2_with fail
  refine (refPart_any num den HF.out _).mono ?_; rw [HU.out]; rintro e w1 ⟨rfl, rfl⟩
  go_wp2_with fail
  refine (rweights_any u u0 u1 _).mono ?_; rw [HX.out, HY.out, HZ.out]; rintro e w2 ⟨rfl, rfl⟩
  go_wp2_with fail
  refine (refSub_any b a hb ha _).mono ?_; rw [HP.out]; rintro e w3 ⟨rfl, rfl⟩
  go_wp2_with fail
  refine (refMul_any x p rx rp _).mono ?_; rw [M1.out]; rintro e w4 ⟨rfl, rfl⟩
  go_wp2_with fail
  refine (refAdd_any a m1 ha rm1 _).mono ?_; rw [S1.out]; rintro e w5 ⟨rfl, rfl⟩
  go_wp2_with fail
  refine (refMul_any v den hv rd _).mono ?_; rw [HQ.out]; rintro e w6 ⟨rfl, rfl⟩
  go_wp2_with fail
  refine (refMul_any y q ry rq _).mono ?_; rw [M2.out]; rintro e w7 ⟨rfl, rfl⟩
  go_wp2_with fail
  refine (refAdd_any s1 m2 rs1 rm2 _).mono ?_; rw [S2.out]; rintro e w8 ⟨rfl, rfl⟩
  go_wp2_with fail
  refine (refMul_any w den hw rd _).mono ?_; rw [HR.out]; rintro e w9 ⟨rfl, rfl⟩
  go_wp2_with fail
  refine (refMul_any z r rz rr _).mono ?_; rw [M3.out]; rintro e w10 ⟨rfl, rfl⟩
  go_wp2_with fail
  refine (refAdd_any s2 m3 rs2 rm3 _).mono ?_; rw [S3.out]; rintro e w11 ⟨rfl, rfl⟩
  go_wp2_with fail
  refine (refClamp_any s3 a b _).mono ?_; rintro e w12 ⟨rfl, rfl⟩
  go_wp2_with fail
  go_ret
  exact ⟨rfl, rfl⟩
theorem rat_any (a v b w num den : Int) (ha : R64 a) (hv : R64 v) (hb : R64 b) (hw : R64 w) (h : fineB num den = true) (W : World) :
    Calls Try.prog 13 #[.int .i64 a, .int .i64 v, .int .i64 b, .int .i64 w, .int .i64 num, .int .i64 den] W fun e W' => e = .returned (.int .i64 (curveI a v b w num den)) ∧ W' = W := by
  by_cases n0 : num = 0
  · subst n0; rw [curve_first]; exact rat_first a v b w den W
  · by_cases n1 : num = den
    · subst n1; rw [curve_last _ _ _ _ _ (fineB_true h).2.2.1]; exact rat_last a v b w num (fineB_true h).2.2.1 W
    · unfold curveI; rw [if_neg n0, if_neg n1]; exact rat_mid a v b w num den ha hv hb hw h n0 n1 W

/-- Layer 4's examples. -/
theorem calive_any (w : World) : Calls Try.prog 9 #[] w fun e w' => e = .returned (.bool true) ∧ Gr w.heap.size w w' := by
  have r0 : R64 0 := by unfold R64; omega
  have r1 : R64 65536 := by unfold R64; omega
  have e1 : wayW 32768 = 32768 := by decide
  have e2 : firstW 32768 = 8192 := by decide
  have e3 : lastW 32768 = -8192 := by decide
  have e4 : curveI 0 0 65536 0 1 4 = 10240 := by decide
  go_enter Try.func9, Try.ntmps9
  go_wp2_with fail
  refine (weights_any 32768 (by omega) (by omega) _).mono ?_; rw [e1, e2, e3]; rintro e w1 ⟨rfl, g1⟩
  go_wp2_with fail
  refine (at_any 0 0 65536 0 1 4 r0 r0 r1 r0 (by decide) _).mono ?_; rw [e4]; rintro e w2 ⟨rfl, g2⟩
  go_wp2_with fail
  go_ret
  exact ⟨rfl, g1.then g2⟩
end Go.Proofs.Ytajobokmddecmaa
