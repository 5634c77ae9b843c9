/-
  Proved: what is others from one entity to a second, and from that to a third, of one Gen, comes to what is others from the first to the third (the law RecordSteps answers true at every input).
  Conditions: none.
-/
import Derived.Test.YticcafmelijngaaRows
import Derived.Test.YticcafmelijngaaFr8
import Derived.Test.YticcafmelijngaaRec8
import Derived.Test.YticcafmelijngaaRec11
import Derived.Deep.CutBlock
import Derived.Deep.DeepCutAuto
namespace Go.Proofs.Yticcafmelijngaa
open Go.ChangeShapes Go.WideShapes Go.ChangeAt Go.RowKit
set_option linter.unusedVariables false

namespace RecordStepsL
theorem own : ownKnob Try.prog.godebug = none := by kernel_rfl

attribute [local go_sem ↓] eqR_run eqE_run eq6_run
set_option maxRecDepth 8000 in
set_option maxHeartbeats 40000000 in
theorem walk (w : World) (a : En) (ha : a.ok) (b : En) (hb : b.ok) (c : En) (hc : c.ok) :
    Calls Try.prog 3 #[entV a, entV b, entV c] w fun e w' => e = .returned (.bool true) ∧ Below w.heap.size w w' := by
  have HA : Hid a.ok := ha
  have HB : Hid b.ok := hb
  have HC : Hid c.ok := hc
  clear ha hb hc
  obtain ⟨ai, ap0, ap1, ap2, av0, av1, av2, aa, ag⟩ := a
  obtain ⟨bi, bp0, bp1, bp2, bv0, bv1, bv2, ba, bg⟩ := b
  obtain ⟨ci, cp0, cp1, cp2, cv0, cv1, cv2, ca, cg⟩ := c
  have bi1 := HA.out.i
  simp only at bi1
  obtain ⟨i1, i2⟩ := bi1
  have hjb := id_bd ai
  go_enter Try.func3, Try.ntmps3
  go_wp2_with fail
  obtain ⟨j, hj⟩ : ∃ j, wrap64 ((IntKind.u64.wrap ai).tmod 65536) = j := ⟨_, rfl⟩
  rw [hj] at hjb
  rw [hj]
  clear hj i1 i2
  generalize (IntKind.u64.wrap ai).tmod 65536 = t1
  generalize IntKind.u64.wrap ai = t0
  generalize hW : ((w.alloc (.cells (entA ⟨j, ap0, ap1, ap2, av0, av1, av2, aa, ag⟩) 25)).alloc (.cells (entA ⟨bi, bp0, bp1, bp2, bv0, bv1, bv2, ba, bg⟩) 25)).alloc (.cells (entA ⟨ci, cp0, cp1, cp2, cv0, cv1, cv2, ca, cg⟩) 25) = W
  obtain ⟨A, C, D, B, _⟩ := boxed3 hW
  clear hW
  obtain ⟨H, hH⟩ : ∃ H, w.heap.size = H := ⟨_, rfl⟩
  have HH : Hid (w.heap.size = H) := hH
  have hle : H ≤ w.heap.size := by omega
  rw [hH] at A C D B
  rw [hH]
  clear hH
  have ca0 := A.cell 0 _ rfl
  have ca8 := A.cell 8 _ rfl
  have cc0 := C.cell 0 _ rfl
  have cc8 := C.cell 8 _ rfl
  have fc0 := C.froz 0
  have fc8 := C.froz 8
  have cd0 := D.cell 0 _ rfl
  have cd8 := D.cell 8 _ rfl
  have fd0 := D.froz 0
  have fd8 := D.froz 8
  have la := A.lt
  have lc := C.lt
  have ld := D.lt
  go_region
  have A' := ((((A.other (p := ⟨H + 1, 0, none⟩) (show H + 1 ≠ H by omega) (.int .i64 j)).other (p := ⟨H + 1 + 1, 0, none⟩) (show H + 1 + 1 ≠ H by omega) (.int .i64 j)).other (p := ⟨H + 1, 8, none⟩) (show H + 1 ≠ H by omega) (.int .u8 ag)).other (p := ⟨H + 1 + 1, 8, none⟩) (show H + 1 + 1 ≠ H by omega) (.int .u8 ag)).drew
  have C' := ((((C.set 0 (.int .i64 j) (by simp)).other (p := ⟨H + 1 + 1, 0, none⟩) (show H + 1 + 1 ≠ H + 1 by omega) (.int .i64 j)).set 8 (.int .u8 ag) (by simp)).other (p := ⟨H + 1 + 1, 8, none⟩) (show H + 1 + 1 ≠ H + 1 by omega) (.int .u8 ag)).drew
  have D' := ((((D.other (p := ⟨H + 1, 0, none⟩) (show H + 1 ≠ H + 1 + 1 by omega) (.int .i64 j)).set 0 (.int .i64 j) (by simp)).other (p := ⟨H + 1, 8, none⟩) (show H + 1 ≠ H + 1 + 1 by omega) (.int .u8 ag)).set 8 (.int .u8 ag) (by simp)).drew
  simp only [List.set] at C' D'
  have B' := ((((B.setCell (p := ⟨H + 1, 0, none⟩) (show H ≤ H + 1 by omega) (.int .i64 j)).setCell (p := ⟨H + 1 + 1, 0, none⟩) (show H ≤ H + 1 + 1 by omega) (.int .i64 j)).setCell (p := ⟨H + 1, 8, none⟩) (show H ≤ H + 1 by omega) (.int .u8 ag)).setCell (p := ⟨H + 1 + 1, 8, none⟩) (show H ≤ H + 1 + 1 by omega) (.int .u8 ag)).drew
  generalize ((((W.setCell ⟨H + 1, 0, none⟩ (.int .i64 j)).setCell ⟨H + 1 + 1, 0, none⟩ (.int .i64 j)).setCell ⟨H + 1, 8, none⟩ (.int .u8 ag)).setCell ⟨H + 1 + 1, 8, none⟩ (.int .u8 ag)).drew = W0 at A' C' D' B' ⊢
  clear ca0 ca8 cc0 cc8 fc0 fc8 cd0 cd8 fd0 fd8 la lc ld A C D B
  have A0 := A'
  have C0 := C'
  have D0 := D'
  have B0 := B'
  clear A' C' D' B'
  obtain ⟨j0, j1⟩ := hjb
  have OA : Hid (⟨j, ap0, ap1, ap2, av0, av1, av2, aa, ag⟩ : En).ok := (show (⟨j, ap0, ap1, ap2, av0, av1, av2, aa, ag⟩ : En).ok from ⟨by unfold S64; simp only; omega, HA.out.p0, HA.out.p1, HA.out.p2, HA.out.v0, HA.out.v1, HA.out.v2, HA.out.a, HA.out.g⟩)
  have OB : Hid (⟨j, bp0, bp1, bp2, bv0, bv1, bv2, ba, ag⟩ : En).ok := (show (⟨j, bp0, bp1, bp2, bv0, bv1, bv2, ba, ag⟩ : En).ok from ⟨by unfold S64; simp only; omega, HB.out.p0, HB.out.p1, HB.out.p2, HB.out.v0, HB.out.v1, HB.out.v2, HB.out.a, HA.out.g⟩)
  have OC : Hid (⟨j, cp0, cp1, cp2, cv0, cv1, cv2, ca, ag⟩ : En).ok := (show (⟨j, cp0, cp1, cp2, cv0, cv1, cv2, ca, ag⟩ : En).ok from ⟨by unfold S64; simp only; omega, HC.out.p0, HC.out.p1, HC.out.p2, HC.out.v0, HC.out.v1, HC.out.v2, HC.out.a, HA.out.g⟩)
  have JJ : Hid ((⟨j, ap0, ap1, ap2, av0, av1, av2, aa, ag⟩ : En).i = j ∧ (⟨j, bp0, bp1, bp2, bv0, bv1, bv2, ba, ag⟩ : En).i = j ∧ (⟨j, cp0, cp1, cp2, cv0, cv1, cv2, ca, ag⟩ : En).i = j ∧ (⟨j, ap0, ap1, ap2, av0, av1, av2, aa, ag⟩ : En).g = ag ∧ (⟨j, bp0, bp1, bp2, bv0, bv1, bv2, ba, ag⟩ : En).g = ag ∧ (⟨j, cp0, cp1, cp2, cv0, cv1, cv2, ca, ag⟩ : En).g = ag) := ⟨rfl, rfl, rfl, rfl, rfl, rfl⟩
  obtain ⟨EA, hEA⟩ : ∃ e : En, ⟨j, ap0, ap1, ap2, av0, av1, av2, aa, ag⟩ = e := ⟨_, rfl⟩
  obtain ⟨EB, hEB⟩ : ∃ e : En, ⟨j, bp0, bp1, bp2, bv0, bv1, bv2, ba, ag⟩ = e := ⟨_, rfl⟩
  obtain ⟨EC, hEC⟩ : ∃ e : En, ⟨j, cp0, cp1, cp2, cv0, cv1, cv2, ca, ag⟩ = e := ⟨_, rfl⟩
  have GA : Hid (⟨j, ap0, ap1, ap2, av0, av1, av2, aa, ag⟩ = EA) := hEA
  have GB : Hid (⟨j, bp0, bp1, bp2, bv0, bv1, bv2, ba, ag⟩ = EB) := hEB
  have GC : Hid (⟨j, cp0, cp1, cp2, cv0, cv1, cv2, ca, ag⟩ = EC) := hEC
  rw [hEA, hEB, hEC] at JJ
  rw [hEA] at OA
  rw [hEB] at OB
  rw [hEC] at OC
  clear hEA hEB hEC
  have x0 := A0.cell 0 _ rfl
  have x1 := A0.cell 1 _ rfl
  have x2 := A0.cell 2 _ rfl
  have x3 := A0.cell 3 _ rfl
  have x4 := A0.cell 4 _ rfl
  have x5 := A0.cell 5 _ rfl
  have x6 := A0.cell 6 _ rfl
  have x7 := A0.cell 7 _ rfl
  have x8 := A0.cell 8 _ rfl
  have xl := A0.lt
  go_upto_region 4 with fail
  generalize hV : W0.alloc (.cells (entA ⟨j, ap0, ap1, ap2, av0, av1, av2, aa, ag⟩) 25) = W1
  obtain ⟨X1, bb, -⟩ := boxed hV
  have A1 := A0.below bb A0.lt
  have C1 := C0.below bb C0.lt
  have D1 := D0.below bb D0.lt
  have B1 := bup B0 hle bb
  have d0lt := D0.lt
  obtain ⟨MX, hMX⟩ : ∃ M, W0.heap.size = M := ⟨_, rfl⟩
  have mx : H + 1 + 1 < MX := by omega
  rw [hMX] at X1
  rw [hMX]
  clear x0 x1 x2 x3 x4 x5 x6 x7 x8 xl
  clear hV bb hMX d0lt A0 C0 D0 B0
  go_cut [39, 40, 41] (fun s n i wx => ∃ SB : Nat, s = .slice (some ⟨SB, 0, none⟩) 2 2 ∧ n = .int .i64 2 ∧ i = .int .i64 0 ∧ MX < SB ∧ Blk wx H (entC EA) ∧ Blk wx (H + 1 + 1) (entC EC) ∧ Blk wx MX (entC EA) ∧ Blk wx SB (entC EB ++ entC EC) ∧ Below H w wx)
  case first =>
    have y0 := C1.cell 0 _ rfl
    have y1 := C1.cell 1 _ rfl
    have y2 := C1.cell 2 _ rfl
    have y3 := C1.cell 3 _ rfl
    have y4 := C1.cell 4 _ rfl
    have y5 := C1.cell 5 _ rfl
    have y6 := C1.cell 6 _ rfl
    have y7 := C1.cell 7 _ rfl
    have y8 := C1.cell 8 _ rfl
    have yl := C1.lt
    have z0 := D1.cell 0 _ rfl
    have z1 := D1.cell 1 _ rfl
    have z2 := D1.cell 2 _ rfl
    have z3 := D1.cell 3 _ rfl
    have z4 := D1.cell 4 _ rfl
    have z5 := D1.cell 5 _ rfl
    have z6 := D1.cell 6 _ rfl
    have z7 := D1.cell 7 _ rfl
    have z8 := D1.cell 8 _ rfl
    have zl := D1.lt
    have xl := X1.lt
    go_wp2_with fail
    generalize hV : W1.alloc (.cells #[.int .i64 j, .int .i64 bp0, .int .i64 bp1, .int .i64 bp2, .int .i64 bv0, .int .i64 bv1, .int .i64 bv2, .int .u16 ba, .int .u8 ag, .int .i64 j, .int .i64 cp0, .int .i64 cp1, .int .i64 cp2, .int .i64 cv0, .int .i64 cv1, .int .i64 cv2, .int .u16 ca, .int .u8 ag] 25) = W2
    obtain ⟨S2, bb, -⟩ := boxed hV
    have A2 := A1.below bb A1.lt
    have D2 := D1.below bb D1.lt
    have X2 := X1.below bb X1.lt
    have B2 := bup B1 hle bb
    clear hV
    go_meet
    exact ⟨_, rfl, rfl, rfl, xl, by rw [← GA.out]; exact A2, by rw [← GC.out]; exact D2, by rw [← GA.out]; exact X2, by rw [← GB.out, ← GC.out]; exact S2, B2⟩
  case rest =>
    obtain ⟨SB, e39, e40, e41, hSB, A2, D2, X2, S2, B2⟩ := hcut
    subst e39 e40 e41
    have MU : ∀ a b : En, a.ok → b.ok → a.i = j → b.i = j → a.g = ag → b.g = ag → entB a b = false → appE a (difR a b) = 0 ∧ appN a (difR a b) = b := fun a b h1 h2 h3 h4 h5 h6 h7 => by
      have m := made_upd h1 h2 (by rw [h3, h4]) (by omega) (by omega) (by rw [h5, h6]) h7
      rw [m.1]
      exact ⟨m.2.2.1, m.2.2.2⟩
    obtain ⟨s, s0, s1, s2⟩ : ∃ s : Nat → En, s 0 = EA ∧ s 1 = EB ∧ s 2 = EC := ⟨fun n => if n = 0 then EA else if n = 1 then EB else EC, rfl, rfl, rfl⟩
    have MK : Hid (∀ k, k < 2 → entB (s k) (s (k + 1)) = false → appE (s k) (difR (s k) (s (k + 1))) = 0 ∧ appN (s k) (difR (s k) (s (k + 1))) = s (k + 1)) := fun k hk => by
      obtain ⟨t1, t2, t3, t4, t5, t6⟩ := JJ.out
      rcases (by omega : k = 0 ∨ k = 1) with e | e
      · subst e; rw [s0, s1]; exact MU EA EB OA.out OB.out t1 t2 t4 t5
      · subst e; rw [s1, s2]; exact MU EB EC OB.out OC.out t2 t3 t5 t6
    have MC : Hid (entB EA EC = false → appE EA (difR EA EC) = 0 ∧ appN EA (difR EA EC) = EC) := by
      obtain ⟨t1, t2, t3, t4, t5, t6⟩ := JJ.out
      have c := MU EA EC OA.out OC.out t1 t3 t4 t6
      exact c
    have SK : Hid (∀ w', Blk w' SB (entC EB ++ entC EC) → ∀ k, k < 2 → ∀ n v, (entC (s (k + 1)))[n]? = some v → w'.cell? ⟨SB, k * 9 + n, none⟩ = some v) := fun w' hb k hk n v hv => by
      have hn : n < 9 := (List.getElem?_eq_some_iff.1 hv).1
      refine hb.cell (k * 9 + n) v ?_
      rcases (by omega : k = 0 ∨ k = 1) with e | e
      · subst e
        rw [s1] at hv
        rw [List.getElem?_append_left (by show 0 * 9 + n < 9; omega), Nat.zero_mul, Nat.zero_add]
        exact hv
      · subst e
        rw [s2] at hv
        rw [List.getElem?_append_right (by show 9 ≤ 1 * 9 + n; omega)]
        have : 1 * 9 + n - (entC EB).length = n := by show 1 * 9 + n - 9 = n; omega
        rw [this]
        exact hv
    have S0 : Hid (s 0 = EA) := s0
    have S2' : Hid (s 2 = EC) := s2
    have A2' : Hid (Blk wc H (entC EA)) := A2
    have D2' : Hid (Blk wc (H + 1 + 1) (entC EC)) := D2
    have X2' : Hid (Blk wc MX (entC EA)) := X2
    have S3 : Hid (Blk wc SB (entC EB ++ entC EC)) := S2
    clear s0 s1 s2 MU OA OB OC JJ GA GB GC A1 C1 D1 X1 B1 A2 D2 X2 S2 HA HB HC
    go_wp2_with fail
    go_loopw [41] (fun i wr => ∃ k : Nat, k ≤ 2 ∧ i = .int .i64 k ∧ Blk wr H (entC EA) ∧ Blk wr (H + 1 + 1) (entC EC) ∧ Blk wr MX (entC (s k)) ∧ Blk wr SB (entC EB ++ entC EC) ∧ Below H w wr) (fun i _ => 2 - (intOf i).toNat)
    case atStart => exact ⟨0, by omega, rfl, A2'.out, D2'.out, by rw [S0.out]; exact X2'.out, S3.out, B2⟩
    case round =>
      obtain ⟨k, hk, rfl, a0, d0, x0, t0, B0⟩ := hrel
      clear A2' D2' X2' S3 B2
      by_cases hlt : k < 2
      · have MKk : Hid (entB (s k) (s (k + 1)) = false → appE (s k) (difR (s k) (s (k + 1))) = 0 ∧ appN (s k) (difR (s k) (s (k + 1))) = s (k + 1)) := MK.out k hlt
        have CK := SK.out _ t0 k hlt
        have Q : Hid (entB (s k) (s (k + 1)) = true → s k = s (k + 1)) := fun h => (entB_iff _ _).1 h
        obtain ⟨x, hx⟩ : ∃ x, s k = x := ⟨_, rfl⟩
        obtain ⟨y, hy⟩ : ∃ y, s (k + 1) = y := ⟨_, rfl⟩
        have HY : Hid (s (k + 1) = y) := hy
        rw [hx, hy] at MKk Q
        rw [hx] at x0
        rw [hy] at CK
        have DF : Hid (∀ w', Calls Try.prog 4 #[entV x, entV y] w' fun e w'' => e = .returned (.tuple #[recV (difR x y), .bool (!entB x y)]) ∧ Below w'.heap.size w' w'') := fun w' => rec_diff w' x y
        obtain ⟨r, hr⟩ : ∃ r, difR x y = r := ⟨_, rfl⟩
        obtain ⟨q, hq⟩ : ∃ q, entB x y = q := ⟨_, rfl⟩
        rw [hr, hq] at DF
        rw [hr, hq] at MKk
        rw [hq] at Q
        clear hx hy hr hq
        have y0 := CK 0 _ rfl
        have y1 := CK 1 _ rfl
        have y2 := CK 2 _ rfl
        have y3 := CK 3 _ rfl
        have y4 := CK 4 _ rfl
        have y5 := CK 5 _ rfl
        have y6 := CK 6 _ rfl
        have y7 := CK 7 _ rfl
        have y8 := CK 8 _ rfl
        simp only [Nat.add_zero] at y0
        have yl := t0.lt
        clear CK
        go_upto_region 7 with fail
        clear y0 y1 y2 y3 y4 y5 y6 y7 y8 yl
        generalize hV : wr.alloc (.cells (entA y) 25) = W3
        obtain ⟨Y3, bb, -⟩ := boxed hV
        have a3 := a0.below bb a0.lt
        have d3 := d0.below bb d0.lt
        have x3 := x0.below bb x0.lt
        have t3 := t0.below bb t0.lt
        have B3 := bup B0 hle bb
        obtain ⟨MY, hMY⟩ : ∃ M, wr.heap.size = M := ⟨_, rfl⟩
        rw [hMY] at Y3
        rw [hMY]
        clear hV bb hMY a0 d0 x0 t0 B0
        have cx0 := x3.cell 0 _ rfl
        have cx1 := x3.cell 1 _ rfl
        have cx2 := x3.cell 2 _ rfl
        have cx3 := x3.cell 3 _ rfl
        have cx4 := x3.cell 4 _ rfl
        have cx5 := x3.cell 5 _ rfl
        have cx6 := x3.cell 6 _ rfl
        have cx7 := x3.cell 7 _ rfl
        have cx8 := x3.cell 8 _ rfl
        have cxl := x3.lt
        have cy0 := Y3.cell 0 _ rfl
        have cy1 := Y3.cell 1 _ rfl
        have cy2 := Y3.cell 2 _ rfl
        have cy3 := Y3.cell 3 _ rfl
        have cy4 := Y3.cell 4 _ rfl
        have cy5 := Y3.cell 5 _ rfl
        have cy6 := Y3.cell 6 _ rfl
        have cy7 := Y3.cell 7 _ rfl
        have cy8 := Y3.cell 8 _ rfl
        have cyl := Y3.lt
        go_wp2_with fail
        refine (DF.out _).mono ?_; rintro e W4 ⟨rfl, bb⟩
        clear cx0 cx1 cx2 cx3 cx4 cx5 cx6 cx7 cx8 cxl
        clear cy0 cy1 cy2 cy3 cy4 cy5 cy6 cy7 cy8 cyl
        have a4 := a3.below bb a3.lt
        have d4 := d3.below bb d3.lt
        have x4 := x3.below bb x3.lt
        have t4 := t3.below bb t3.lt
        have B4 := bup B3 hle bb
        clear bb a3 d3 x3 t3 B3 Y3 DF
        go_upto_region 8 with fail
        generalize hV : W4.alloc (.cells (recA r) 29) = W5
        obtain ⟨R5, bb, -⟩ := boxed hV
        have a5 := a4.below bb a4.lt
        have d5 := d4.below bb d4.lt
        have x5 := x4.below bb x4.lt
        have t5 := t4.below bb t4.lt
        have B5 := bup B4 hle bb
        obtain ⟨MR, hMR⟩ : ∃ M, W4.heap.size = M := ⟨_, rfl⟩
        rw [hMR] at R5
        rw [hMR]
        clear hV bb hMR a4 d4 x4 t4 B4
        cases q
        · obtain ⟨m1, m2⟩ := MKk.out rfl
          have AP : Hid (∀ w', Calls Try.prog 5 #[entV x, recV r] w' fun e w'' => e = .returned (.tuple #[entV y, .int .i64 0]) ∧ Below w'.heap.size w' w'') := fun w' => by
            have c := rec_apply w' x r
            rw [m1, m2] at c
            exact c
          clear m1 m2 MKk Q
          have cx0 := x5.cell 0 _ rfl
          have cx1 := x5.cell 1 _ rfl
          have cx2 := x5.cell 2 _ rfl
          have cx3 := x5.cell 3 _ rfl
          have cx4 := x5.cell 4 _ rfl
          have cx5 := x5.cell 5 _ rfl
          have cx6 := x5.cell 6 _ rfl
          have cx7 := x5.cell 7 _ rfl
          have cx8 := x5.cell 8 _ rfl
          have cxl := x5.lt
          have cr0 := R5.cell 0 _ rfl
          have cr1 := R5.cell 1 _ rfl
          have cr2 := R5.cell 2 _ rfl
          have cr3 := R5.cell 3 _ rfl
          have cr4 := R5.cell 4 _ rfl
          have cr5 := R5.cell 5 _ rfl
          have cr6 := R5.cell 6 _ rfl
          have cr7 := R5.cell 7 _ rfl
          have cr8 := R5.cell 8 _ rfl
          have crl := R5.lt
          go_wp2_with fail
          refine (AP.out _).mono ?_; rintro e W6 ⟨rfl, bb⟩
          clear cx0 cx1 cx2 cx3 cx4 cx5 cx6 cx7 cx8 cxl
          clear cr0 cr1 cr2 cr3 cr4 cr5 cr6 cr7 cr8 crl
          have a6 := a5.below bb a5.lt
          have d6 := d5.below bb d5.lt
          have x6 := x5.below bb x5.lt
          have t6 := t5.below bb t5.lt
          have B6 := bup B5 hle bb
          clear bb a5 d5 x5 t5 B5 R5 AP
          go_upto_region 10 with fail
          generalize hV : W6.alloc (.cells (entA y) 25) = W7
          obtain ⟨Y7, bb, -⟩ := boxed hV
          have a7 := a6.below bb a6.lt
          have d7 := d6.below bb d6.lt
          have x7 := x6.below bb x6.lt
          have t7 := t6.below bb t6.lt
          have B7 := bup B6 hle bb
          obtain ⟨MZ, hMZ⟩ : ∃ M, W6.heap.size = M := ⟨_, rfl⟩
          rw [hMZ] at Y7
          rw [hMZ]
          clear hV bb hMZ a6 d6 x6 t6 B6
          have a8 := Blk.others (b := MX) (x0 := .int .i64 y.i) (x1 := .int .i64 y.p0) (x2 := .int .i64 y.p1) (x3 := .int .i64 y.p2) (x4 := .int .i64 y.v0) (x5 := .int .i64 y.v1) (x6 := .int .i64 y.v2) (x7 := .int .u16 y.a) (x8 := .int .u8 y.g) a7 (by omega)
          have d8 := Blk.others (b := MX) (x0 := .int .i64 y.i) (x1 := .int .i64 y.p0) (x2 := .int .i64 y.p1) (x3 := .int .i64 y.p2) (x4 := .int .i64 y.v0) (x5 := .int .i64 y.v1) (x6 := .int .i64 y.v2) (x7 := .int .u16 y.a) (x8 := .int .u8 y.g) d7 (by omega)
          have t8 := Blk.others (b := MX) (x0 := .int .i64 y.i) (x1 := .int .i64 y.p0) (x2 := .int .i64 y.p1) (x3 := .int .i64 y.p2) (x4 := .int .i64 y.v0) (x5 := .int .i64 y.v1) (x6 := .int .i64 y.v2) (x7 := .int .u16 y.a) (x8 := .int .u8 y.g) t7 (by omega)
          have x8 := Blk.nine (x0 := .int .i64 y.i) (x1 := .int .i64 y.p0) (x2 := .int .i64 y.p1) (x3 := .int .i64 y.p2) (x4 := .int .i64 y.v0) (x5 := .int .i64 y.v1) (x6 := .int .i64 y.v2) (x7 := .int .u16 y.a) (x8 := .int .u8 y.g) x7
          have B8 := below_nine (b := MX) (x0 := .int .i64 y.i) (x1 := .int .i64 y.p0) (x2 := .int .i64 y.p1) (x3 := .int .i64 y.p2) (x4 := .int .i64 y.v0) (x5 := .int .i64 y.v1) (x6 := .int .i64 y.v2) (x7 := .int .u16 y.a) (x8 := .int .u8 y.g) B7 (by omega)
          have cx0 := x7.cell 0 _ rfl
          have cx1 := x7.cell 1 _ rfl
          have cx2 := x7.cell 2 _ rfl
          have cx3 := x7.cell 3 _ rfl
          have cx4 := x7.cell 4 _ rfl
          have cx5 := x7.cell 5 _ rfl
          have cx6 := x7.cell 6 _ rfl
          have cx7 := x7.cell 7 _ rfl
          have cx8 := x7.cell 8 _ rfl
          have cxl := x7.lt
          have fx0 := x7.froz 0
          have fx1 := x7.froz 1
          have fx2 := x7.froz 2
          have fx3 := x7.froz 3
          have fx4 := x7.froz 4
          have fx5 := x7.froz 5
          have fx6 := x7.froz 6
          have fx7 := x7.froz 7
          have fx8 := x7.froz 8
          have cy0 := Y7.cell 0 _ rfl
          have cy1 := Y7.cell 1 _ rfl
          have cy2 := Y7.cell 2 _ rfl
          have cy3 := Y7.cell 3 _ rfl
          have cy4 := Y7.cell 4 _ rfl
          have cy5 := Y7.cell 5 _ rfl
          have cy6 := Y7.cell 6 _ rfl
          have cy7 := Y7.cell 7 _ rfl
          have cy8 := Y7.cell 8 _ rfl
          have cyl := Y7.lt
          go_wp2_with fail
          generalize ((((((((W7.setCell ⟨MX, 0, none⟩ (.int .i64 y.i)).setCell ⟨MX, 1, none⟩ (.int .i64 y.p0)).setCell ⟨MX, 2, none⟩ (.int .i64 y.p1)).setCell ⟨MX, 3, none⟩ (.int .i64 y.p2)).setCell ⟨MX, 4, none⟩ (.int .i64 y.v0)).setCell ⟨MX, 5, none⟩ (.int .i64 y.v1)).setCell ⟨MX, 6, none⟩ (.int .i64 y.v2)).setCell ⟨MX, 7, none⟩ (.int .u16 y.a)).setCell ⟨MX, 8, none⟩ (.int .u8 y.g) = W8 at a8 d8 t8 x8 B8 ⊢
          clear cx0 cx1 cx2 cx3 cx4 cx5 cx6 cx7 cx8 cxl
          clear cy0 cy1 cy2 cy3 cy4 cy5 cy6 cy7 cy8 cyl
          clear fx0 fx1 fx2 fx3 fx4 fx5 fx6 fx7 fx8
          clear a7 d7 x7 t7 B7 Y7
          go_roundw
          case rel => exact ⟨k + 1, by omega, by go_num, a8, d8, by rw [HY.out]; exact x8, t8, B8⟩
          case measure => simp [intOf]; omega
        · have exy := Q.out rfl
          subst exy
          clear MKk Q R5
          go_wp2_with fail
          go_roundw
          case rel => exact ⟨k + 1, by omega, by go_num, a5, d5, by rw [HY.out]; exact x5, t5, B5⟩
          case measure => simp [intOf]; omega
      · obtain rfl : k = 2 := by omega
        rw [S2'.out] at x0
        have DF : Hid (∀ w', Calls Try.prog 4 #[entV EA, entV EC] w' fun e w'' => e = .returned (.tuple #[recV (difR EA EC), .bool (!entB EA EC)]) ∧ Below w'.heap.size w' w'') := fun w' => rec_diff w' EA EC
        have Q : Hid (entB EA EC = true → EA = EC) := fun h => (entB_iff _ _).1 h
        obtain ⟨r, hr⟩ : ∃ r, difR EA EC = r := ⟨_, rfl⟩
        obtain ⟨q, hq⟩ : ∃ q, entB EA EC = q := ⟨_, rfl⟩
        rw [hr, hq] at DF
        rw [hr, hq] at MC
        rw [hq] at Q
        clear hr hq MK SK S0 S2'
        have ca0 := a0.cell 0 _ rfl
        have ca1 := a0.cell 1 _ rfl
        have ca2 := a0.cell 2 _ rfl
        have ca3 := a0.cell 3 _ rfl
        have ca4 := a0.cell 4 _ rfl
        have ca5 := a0.cell 5 _ rfl
        have ca6 := a0.cell 6 _ rfl
        have ca7 := a0.cell 7 _ rfl
        have ca8 := a0.cell 8 _ rfl
        have cal := a0.lt
        have cd0 := d0.cell 0 _ rfl
        have cd1 := d0.cell 1 _ rfl
        have cd2 := d0.cell 2 _ rfl
        have cd3 := d0.cell 3 _ rfl
        have cd4 := d0.cell 4 _ rfl
        have cd5 := d0.cell 5 _ rfl
        have cd6 := d0.cell 6 _ rfl
        have cd7 := d0.cell 7 _ rfl
        have cd8 := d0.cell 8 _ rfl
        have cdl := d0.lt
        go_wp2_with fail
        refine (DF.out _).mono ?_; rintro e W4 ⟨rfl, bb⟩
        clear ca0 ca1 ca2 ca3 ca4 ca5 ca6 ca7 ca8 cal
        clear cd0 cd1 cd2 cd3 cd4 cd5 cd6 cd7 cd8 cdl
        have a4 := a0.below bb a0.lt
        have d4 := d0.below bb d0.lt
        have x4 := x0.below bb x0.lt
        have B4 := bup B0 hle bb
        clear bb a0 d0 x0 t0 B0 DF
        go_upto_region 15 with fail
        generalize hV : W4.alloc (.cells (recA r) 29) = W5
        obtain ⟨R5, bb, -⟩ := boxed hV
        have a5 := a4.below bb a4.lt
        have d5 := d4.below bb d4.lt
        have x5 := x4.below bb x4.lt
        have B5 := bup B4 hle bb
        obtain ⟨MR, hMR⟩ : ∃ M, W4.heap.size = M := ⟨_, rfl⟩
        rw [hMR] at R5
        rw [hMR]
        clear hV bb hMR a4 d4 x4 B4
        have ecc : entB EC EC = true := entB_same EC
        cases q
        · obtain ⟨m1, m2⟩ := MC.out rfl
          have AP : Hid (∀ w', Calls Try.prog 5 #[entV EA, recV r] w' fun e w'' => e = .returned (.tuple #[entV EC, .int .i64 0]) ∧ Below w'.heap.size w' w'') := fun w' => by
            have c := rec_apply w' EA r
            rw [m1, m2] at c
            exact c
          clear m1 m2 MC Q
          have ca0 := a5.cell 0 _ rfl
          have ca1 := a5.cell 1 _ rfl
          have ca2 := a5.cell 2 _ rfl
          have ca3 := a5.cell 3 _ rfl
          have ca4 := a5.cell 4 _ rfl
          have ca5 := a5.cell 5 _ rfl
          have ca6 := a5.cell 6 _ rfl
          have ca7 := a5.cell 7 _ rfl
          have ca8 := a5.cell 8 _ rfl
          have cal := a5.lt
          have cr0 := R5.cell 0 _ rfl
          have cr1 := R5.cell 1 _ rfl
          have cr2 := R5.cell 2 _ rfl
          have cr3 := R5.cell 3 _ rfl
          have cr4 := R5.cell 4 _ rfl
          have cr5 := R5.cell 5 _ rfl
          have cr6 := R5.cell 6 _ rfl
          have cr7 := R5.cell 7 _ rfl
          have cr8 := R5.cell 8 _ rfl
          have crl := R5.lt
          go_wp2_with fail
          refine (AP.out _).mono ?_; rintro e W6 ⟨rfl, bb⟩
          clear ca0 ca1 ca2 ca3 ca4 ca5 ca6 ca7 ca8 cal
          clear cr0 cr1 cr2 cr3 cr4 cr5 cr6 cr7 cr8 crl
          have d6 := d5.below bb d5.lt
          have x6 := x5.below bb x5.lt
          have B6 := bup B5 hle bb
          clear bb a5 d5 x5 B5 R5 AP
          go_upto_region 18 with fail
          generalize hV : W6.alloc (.cells (entA EC) 25) = W7
          obtain ⟨Y7, bb, -⟩ := boxed hV
          have d7 := d6.below bb d6.lt
          have x7 := x6.below bb x6.lt
          have B7 := bup B6 hle bb
          obtain ⟨MZ, hMZ⟩ : ∃ M, W6.heap.size = M := ⟨_, rfl⟩
          rw [hMZ] at Y7
          rw [hMZ]
          clear hV bb hMZ d6 x6 B6
          go_wp2_with fail
          refine (rec_alive _).mono ?_; rintro e W8 ⟨rfl, bb⟩
          have d8 := d7.below bb d7.lt
          have x8 := x7.below bb x7.lt
          have Y8 := Y7.below bb Y7.lt
          have B8 := bup B7 hle bb
          clear bb d7 x7 Y7 B7
          have cd0 := d8.cell 0 _ rfl
          have cd1 := d8.cell 1 _ rfl
          have cd2 := d8.cell 2 _ rfl
          have cd3 := d8.cell 3 _ rfl
          have cd4 := d8.cell 4 _ rfl
          have cd5 := d8.cell 5 _ rfl
          have cd6 := d8.cell 6 _ rfl
          have cd7 := d8.cell 7 _ rfl
          have cd8 := d8.cell 8 _ rfl
          have cdl := d8.lt
          have cx0 := x8.cell 0 _ rfl
          have cx1 := x8.cell 1 _ rfl
          have cx2 := x8.cell 2 _ rfl
          have cx3 := x8.cell 3 _ rfl
          have cx4 := x8.cell 4 _ rfl
          have cx5 := x8.cell 5 _ rfl
          have cx6 := x8.cell 6 _ rfl
          have cx7 := x8.cell 7 _ rfl
          have cx8 := x8.cell 8 _ rfl
          have cxl := x8.lt
          have cy0 := Y8.cell 0 _ rfl
          have cy1 := Y8.cell 1 _ rfl
          have cy2 := Y8.cell 2 _ rfl
          have cy3 := Y8.cell 3 _ rfl
          have cy4 := Y8.cell 4 _ rfl
          have cy5 := Y8.cell 5 _ rfl
          have cy6 := Y8.cell 6 _ rfl
          have cy7 := Y8.cell 7 _ rfl
          have cy8 := Y8.cell 8 _ rfl
          have cyl := Y8.lt
          go_wp2_with fail
          go_ret
          exact ⟨ret_bool (by simp), HH.out ▸ B8⟩
        · have exy := Q.out rfl
          subst exy
          clear MC Q R5
          go_wp2_with fail
          refine (rec_alive _).mono ?_; rintro e W8 ⟨rfl, bb⟩
          have a8 := a5.below bb a5.lt
          have d8 := d5.below bb d5.lt
          have x8 := x5.below bb x5.lt
          have B8 := bup B5 hle bb
          clear bb a5 d5 x5 B5
          have ca0 := a8.cell 0 _ rfl
          have ca1 := a8.cell 1 _ rfl
          have ca2 := a8.cell 2 _ rfl
          have ca3 := a8.cell 3 _ rfl
          have ca4 := a8.cell 4 _ rfl
          have ca5 := a8.cell 5 _ rfl
          have ca6 := a8.cell 6 _ rfl
          have ca7 := a8.cell 7 _ rfl
          have ca8 := a8.cell 8 _ rfl
          have cal := a8.lt
          have cd0 := d8.cell 0 _ rfl
          have cd1 := d8.cell 1 _ rfl
          have cd2 := d8.cell 2 _ rfl
          have cd3 := d8.cell 3 _ rfl
          have cd4 := d8.cell 4 _ rfl
          have cd5 := d8.cell 5 _ rfl
          have cd6 := d8.cell 6 _ rfl
          have cd7 := d8.cell 7 _ rfl
          have cd8 := d8.cell 8 _ rfl
          have cdl := d8.lt
          have cx0 := x8.cell 0 _ rfl
          have cx1 := x8.cell 1 _ rfl
          have cx2 := x8.cell 2 _ rfl
          have cx3 := x8.cell 3 _ rfl
          have cx4 := x8.cell 4 _ rfl
          have cx5 := x8.cell 5 _ rfl
          have cx6 := x8.cell 6 _ rfl
          have cx7 := x8.cell 7 _ rfl
          have cx8 := x8.cell 8 _ rfl
          have cxl := x8.lt
          go_wp2_with fail
          go_ret
          exact ⟨ret_bool (by simp), HH.out ▸ B8⟩

set_option maxRecDepth 100000 in
theorem lifted (os : Os) (started : os.Started) (H : Type) (enc : TypeId × Value → H) :
    ReturnsInHanded {} Try.checked os 3 .any (Rows.recordStepsSpec.pre6 enc Try.prog Try.f3 Rows.recordStepsRow.domain false) (Rows.recordStepsSpec.post enc Try.prog Try.f3 false true false false) := by
  refine returnsInHanded_of_change (C := Try.checked) own started (by kernel_rfl) Try.func3
    (ChangeSpec.witness6 (enc := enc) (C := Try.checked) false ⟨#[], #[.agg #[.int .i64 0, .int .i64 0, .int .i64 0, .int .i64 0, .int .i64 0, .int .i64 0, .int .i64 0, .int .u16 0, .int .u8 0], .agg #[.int .i64 0, .int .i64 0, .int .i64 0, .int .i64 0, .int .i64 0, .int .i64 0, .int .i64 0, .int .u16 0, .int .u8 0], .agg #[.int .i64 0, .int .i64 0, .int .i64 0, .int .i64 0, .int .i64 0, .int .i64 0, .int .i64 0, .int .u16 0, .int .u8 0]], []⟩ 8 (by kernel_rfl) (by kernel_rfl) (by kernel_rfl) (by kernel_rfl)) ?_
  intro W base args ds gs before hval0 hW hcnd _
  have hval : ∀ (j : Nat) t v, Try.f3.params[j]? = some t → args[j]? = some v → Value.okWide Try.prog W .any base t v := hval0
  have hW' := hW
  obtain ⟨p, q, hA0, hV, rfl, hfz, hnd⟩ := hW
  have hA : DataW.TrodAll enc Try.prog W 0 (fun _ => true) true Try.f3.params.toList args.toList ds p := hA0
  rw [Try.params3] at hA hval
  obtain ⟨v0, vs0, d0, ds0, p0, q0, hargs, rfl, rfl, h0, r0⟩ := trodAll_cons hA
  obtain ⟨v1, vs1, d1, ds1, p1, q1, rfl, rfl, rfl, h1, r1⟩ := trodAll_cons r0
  obtain ⟨v2, vs2, d2, ds2, p2, q2, rfl, rfl, rfl, h2, r2⟩ := trodAll_cons r1
  obtain ⟨rfl, rfl, rfl⟩ := trodAll_nil r2
  obtain rfl : args = #[v0, v1, v2] := by cases args; simp_all
  obtain ⟨rfl, rfl⟩ := trodVars_none hV
  have hlt := hW'.lt
  have k0 := h0
  obtain ⟨rc0, e0, b0⟩ := open_ent (hval 0 25 v0 rfl rfl) h0
  subst e0
  have k1 := h1
  obtain ⟨rc1, e1, b1⟩ := open_ent (hval 1 25 v1 rfl rfl) h1
  subst e1
  have k2 := h2
  obtain ⟨rc2, e2, b2⟩ := open_ent (hval 2 25 v2 rfl rfl) h2
  subst e2
  clear hA0 hval0
  refine (walk W rc0 b0 rc1 b1 rc2 b2).mono fun e W' ⟨he, hg⟩ => ?_
  subst he
  exact ⟨_, rfl, post_of_below hW' (fun _ _ _ => (trodAll_cons_mk (shut_bool Try.underlying4 _) trodAll_mk0)) (trodAll_cons_mk (Below.trod laidOut (by kernel_rfl) (of_decide_eq_true (by kernel_rfl)) k0 hg (fun x hx => by first | exact absurd hx (by simp) | exact hlt x (by simp [hx]))) (trodAll_cons_mk (Below.trod laidOut (by kernel_rfl) (of_decide_eq_true (by kernel_rfl)) k1 hg (fun x hx => by first | exact absurd hx (by simp) | exact hlt x (by simp [hx]))) (trodAll_cons_mk (Below.trod laidOut (by kernel_rfl) (of_decide_eq_true (by kernel_rfl)) k2 hg (fun x hx => by first | exact absurd hx (by simp) | exact hlt x (by simp [hx]))) trodAll_mk0))) rfl hg⟩

theorem over : Rows.recordStepsRow.holds Try.pinned (OpenSpec.ofChange Rows.recordStepsSpec) :=
  OpenClaim.holds_of_wide 3 Try.f3 rfl rfl rfl rfl rfl rfl rfl ⟨rfl, rfl, rfl, rfl, rfl⟩ rfl rfl rfl rfl rfl (by kernel_rfl) Try.func3 (by kernel_rfl)
    (of_decide_eq_true (by kernel_rfl)) (by unfold Func.isWrapper; first | (rw [if_pos (by decide +kernel)]; kernel_rfl) | (rw [if_neg (by decide +kernel)]; exact ⟨rfl, rfl⟩))
    (fun os started H enc _ => lifted os started H enc)
end RecordStepsL

theorem recordSteps_proved : Rows.RecordStepsSaid := RecordStepsL.over
#print axioms recordSteps_proved
end Go.Proofs.Yticcafmelijngaa
