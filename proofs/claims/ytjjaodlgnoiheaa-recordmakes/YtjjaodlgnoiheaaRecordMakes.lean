/-
  Proved: what Apply makes of an entity by what is others is the other one (the law RecordMakes answers true at every input).
  Conditions: none.
-/
import Derived.Test.YtjjaodlgnoiheaaRows
import Derived.Test.YtjjaodlgnoiheaaFr8
import Derived.Test.YtjjaodlgnoiheaaRec11
import Derived.Test.YtjjaodlgnoiheaaRec8
namespace Go.Proofs.Ytjjaodlgnoiheaa
open Go.ChangeShapes Go.WideShapes Go.ChangeAt Go.RowKit
set_option linter.unusedVariables false

namespace RecordMakesL
theorem own : ownKnob Try.prog.godebug = none := by kernel_rfl

attribute [local go_sem ↓] eqR_run eqE_run eq6_run
set_option maxRecDepth 8000 in
set_option maxHeartbeats 4000000 in
theorem walk (w : World) (a : En) (ha : a.ok) (b : En) (hb : b.ok) (jumps : Bool) :
    Calls Try.prog 8 #[entV a, entV b, .bool jumps] w fun e w' => e = .returned (.bool true) ∧ Below w.heap.size w w' := by
  have HA : Hid a.ok := ha
  have HB : Hid b.ok := hb
  clear ha hb
  obtain ⟨ai, ap0, ap1, ap2, av0, av1, av2, aa, ag⟩ := a
  obtain ⟨bi, bp0, bp1, bp2, bv0, bv1, bv2, ba, bg⟩ := b
  have bi1 := HA.out.i
  simp only at bi1
  obtain ⟨i1, i2⟩ := bi1
  have hjb := id_bd ai
  have HG := HA.out.g
  simp only at HG
  go_enter Try.func8, Try.ntmps8
  go_wp2_with fail
  obtain ⟨j, hj⟩ : ∃ j, wrap64 ((IntKind.u64.wrap ai).tmod 65536) = j := ⟨_, rfl⟩
  rw [hj] at hjb
  rw [hj]
  clear hj i1 i2
  generalize (IntKind.u64.wrap ai).tmod 65536 = t1
  generalize IntKind.u64.wrap ai = t0
  generalize hW : (w.alloc (.cells (entA ⟨j, ap0, ap1, ap2, av0, av1, av2, aa, ag⟩) 49)).alloc (.cells (entA ⟨bi, bp0, bp1, bp2, bv0, bv1, bv2, ba, bg⟩) 49) = W
  obtain ⟨A, C, B⟩ := boxed2 hW
  clear hW
  obtain ⟨H, hH⟩ : ∃ H, w.heap.size = H := ⟨_, rfl⟩
  have HH : Hid (w.heap.size = H) := hH
  have hle : H ≤ w.heap.size := by omega
  rw [hH] at A C B
  rw [hH]
  clear hH
  have ca0 := A.cell 0 _ rfl
  have ca8 := A.cell 8 _ rfl
  have cc0 := C.cell 0 _ rfl
  have cc8 := C.cell 8 _ rfl
  have fc0 := C.froz 0
  have fc8 := C.froz 8
  have la := A.lt
  have lc := C.lt
  go_region
  have C' := ((C.set 0 (.int .i64 j) (by simp)).set 8 (.int .u8 ag) (by simp)).drew
  simp only [List.set] at C'
  have A' := ((A.other (p := ⟨H + 1, 0, none⟩) (show H + 1 ≠ H by omega) (.int .i64 j)).other (p := ⟨H + 1, 8, none⟩) (show H + 1 ≠ H by omega) (.int .u8 ag)).drew
  have B' := ((B.setCell (p := ⟨H + 1, 0, none⟩) (show H ≤ H + 1 by omega) (.int .i64 j)).setCell (p := ⟨H + 1, 8, none⟩) (show H ≤ H + 1 by omega) (.int .u8 ag)).drew
  generalize ((W.setCell ⟨H + 1, 0, none⟩ (.int .i64 j)).setCell ⟨H + 1, 8, none⟩ (.int .u8 ag)).drew = V at A' C' B' ⊢
  clear ca0 ca8 cc0 cc8 fc0 fc8 la lc A C B
  obtain ⟨j0, j1⟩ := hjb
  cases jumps
  · obtain ⟨x, hx⟩ : ∃ x, difR ⟨j, ap0, ap1, ap2, av0, av1, av2, aa, ag⟩ ⟨j, bp0, bp1, bp2, bv0, bv1, bv2, ba, ag⟩ = x := ⟨_, rfl⟩
    have HX : Hid (difR ⟨j, ap0, ap1, ap2, av0, av1, av2, aa, ag⟩ ⟨j, bp0, bp1, bp2, bv0, bv1, bv2, ba, ag⟩ = x) := hx
    have A0 := A'
    have C0 := C'
    have B0 := B'
    clear A' C' B'
    cases hq0 : entB ⟨j, ap0, ap1, ap2, av0, av1, av2, aa, ag⟩ ⟨j, bp0, bp1, bp2, bv0, bv1, bv2, ba, ag⟩
    · have HQ : Hid (entB ⟨j, ap0, ap1, ap2, av0, av1, av2, aa, ag⟩ ⟨j, bp0, bp1, bp2, bv0, bv1, bv2, ba, ag⟩ = false) := hq0
      have MU := made_upd (show (⟨j, ap0, ap1, ap2, av0, av1, av2, aa, ag⟩ : En).ok from ⟨by unfold S64; simp only; omega, HA.out.p0, HA.out.p1, HA.out.p2, HA.out.v0, HA.out.v1, HA.out.v2, HA.out.a, HA.out.g⟩) (show (⟨j, bp0, bp1, bp2, bv0, bv1, bv2, ba, ag⟩ : En).ok from ⟨by unfold S64; simp only; omega, HB.out.p0, HB.out.p1, HB.out.p2, HB.out.v0, HB.out.v1, HB.out.v2, HB.out.a, HA.out.g⟩) rfl j0 j1 rfl hq0
      rw [hx] at MU
      obtain ⟨m1, m2, m3, m4⟩ := MU
      rw [← m1] at m2 m3 m4
      have HC : Hid (chk x = 0) := m2
      have HE : Hid (appE ⟨j, ap0, ap1, ap2, av0, av1, av2, aa, ag⟩ x = 0) := m3
      have HN : Hid (appN ⟨j, ap0, ap1, ap2, av0, av1, av2, aa, ag⟩ x = ⟨j, bp0, bp1, bp2, bv0, bv1, bv2, ba, ag⟩) := m4
      have HK : Hid (x.k = 1) := (by rw [m1]; rfl : x.k = 1)
      clear m1 m2 m3 m4 hx hq0
      have cA0 := A0.cell 0 _ rfl
      have cA1 := A0.cell 1 _ rfl
      have cA2 := A0.cell 2 _ rfl
      have cA3 := A0.cell 3 _ rfl
      have cA4 := A0.cell 4 _ rfl
      have cA5 := A0.cell 5 _ rfl
      have cA6 := A0.cell 6 _ rfl
      have cA7 := A0.cell 7 _ rfl
      have cA8 := A0.cell 8 _ rfl
      have cC0 := C0.cell 0 _ rfl
      have cC1 := C0.cell 1 _ rfl
      have cC2 := C0.cell 2 _ rfl
      have cC3 := C0.cell 3 _ rfl
      have cC4 := C0.cell 4 _ rfl
      have cC5 := C0.cell 5 _ rfl
      have cC6 := C0.cell 6 _ rfl
      have cC7 := C0.cell 7 _ rfl
      have cC8 := C0.cell 8 _ rfl
      have lA := A0.lt
      have lC := C0.lt
      go_wp2_with fail
      clear cA0 cA1 cA2 cA3 cA4 cA5 cA6 cA7 cA8 cC0 cC1 cC2 cC3 cC4 cC5 cC6 cC7 cC8 lA lC
      refine (rec_diff _ ⟨j, ap0, ap1, ap2, av0, av1, av2, aa, ag⟩ ⟨j, bp0, bp1, bp2, bv0, bv1, bv2, ba, ag⟩).mono ?_; rw [HX.out, HQ.out]; rintro e W1 ⟨rfl, bb⟩
      have A1 := A0.below bb A0.lt
      have C1 := C0.below bb C0.lt
      have B1 := bup B0 hle bb
      clear A0 C0 B0
      clear bb
      have cA0 := A1.cell 0 _ rfl
      have cA1 := A1.cell 1 _ rfl
      have cA2 := A1.cell 2 _ rfl
      have cA3 := A1.cell 3 _ rfl
      have cA4 := A1.cell 4 _ rfl
      have cA5 := A1.cell 5 _ rfl
      have cA6 := A1.cell 6 _ rfl
      have cA7 := A1.cell 7 _ rfl
      have cA8 := A1.cell 8 _ rfl
      have lA := A1.lt
      have lC := C1.lt
      go_wp2_with fail
      clear cA0 cA1 cA2 cA3 cA4 cA5 cA6 cA7 cA8 lA lC
      generalize hV : W1.alloc (.cells (recA x) 25) = W2
      obtain ⟨X2, bb, _⟩ := boxed hV
      clear hV
      have A2 := A1.below bb A1.lt
      have C2 := C1.below bb C1.lt
      have B2 := bup B1 hle bb
      clear A1 C1 B1
      obtain ⟨MX, hMX⟩ : ∃ M, W1.heap.size = M := ⟨_, rfl⟩
      rw [hMX] at X2
      rw [hMX]
      clear bb hMX
      refine (rec_apply _ ⟨j, ap0, ap1, ap2, av0, av1, av2, aa, ag⟩ x).mono ?_; rw [HN.out, HE.out]; rintro e W3 ⟨rfl, bb⟩
      have A3 := A2.below bb A2.lt
      have C3 := C2.below bb C2.lt
      have X3 := X2.below bb X2.lt
      have B3 := bup B2 hle bb
      clear A2 C2 X2 B2
      clear bb
      have lA := A3.lt
      have lC := C3.lt
      have lX := X3.lt
      go_wp2_with fail
      clear lA lC lX
      generalize hV : W3.alloc (.cells (entA ⟨j, bp0, bp1, bp2, bv0, bv1, bv2, ba, ag⟩) 49) = W4
      obtain ⟨P4, bb, _⟩ := boxed hV
      clear hV
      have A4 := A3.below bb A3.lt
      have C4 := C3.below bb C3.lt
      have X4 := X3.below bb X3.lt
      have B4 := bup B3 hle bb
      clear A3 C3 X3 B3
      obtain ⟨MP, hMP⟩ : ∃ M, W3.heap.size = M := ⟨_, rfl⟩
      rw [hMP] at P4
      rw [hMP]
      clear bb hMP
      refine (rec_alive _).mono ?_; rintro e W5 ⟨rfl, bb⟩
      have A5 := A4.below bb A4.lt
      have C5 := C4.below bb C4.lt
      have X5 := X4.below bb X4.lt
      have P5 := P4.below bb P4.lt
      have B5 := bup B4 hle bb
      clear A4 C4 X4 P4 B4
      clear bb
      have hq := HQ.out
      have hs : entB ⟨j, bp0, bp1, bp2, bv0, bv1, bv2, ba, ag⟩ ⟨j, bp0, bp1, bp2, bv0, bv1, bv2, ba, ag⟩ = true := entB_same _
      have cA0 := A5.cell 0 _ rfl
      have cA1 := A5.cell 1 _ rfl
      have cA2 := A5.cell 2 _ rfl
      have cA3 := A5.cell 3 _ rfl
      have cA4 := A5.cell 4 _ rfl
      have cA5 := A5.cell 5 _ rfl
      have cA6 := A5.cell 6 _ rfl
      have cA7 := A5.cell 7 _ rfl
      have cA8 := A5.cell 8 _ rfl
      have cC0 := C5.cell 0 _ rfl
      have cC1 := C5.cell 1 _ rfl
      have cC2 := C5.cell 2 _ rfl
      have cC3 := C5.cell 3 _ rfl
      have cC4 := C5.cell 4 _ rfl
      have cC5 := C5.cell 5 _ rfl
      have cC6 := C5.cell 6 _ rfl
      have cC7 := C5.cell 7 _ rfl
      have cC8 := C5.cell 8 _ rfl
      have cX0 := X5.cell 0 _ rfl
      have cX1 := X5.cell 1 _ rfl
      have cX2 := X5.cell 2 _ rfl
      have cX3 := X5.cell 3 _ rfl
      have cX4 := X5.cell 4 _ rfl
      have cX5 := X5.cell 5 _ rfl
      have cX6 := X5.cell 6 _ rfl
      have cX7 := X5.cell 7 _ rfl
      have cX8 := X5.cell 8 _ rfl
      have cP0 := P5.cell 0 _ rfl
      have cP1 := P5.cell 1 _ rfl
      have cP2 := P5.cell 2 _ rfl
      have cP3 := P5.cell 3 _ rfl
      have cP4 := P5.cell 4 _ rfl
      have cP5 := P5.cell 5 _ rfl
      have cP6 := P5.cell 6 _ rfl
      have cP7 := P5.cell 7 _ rfl
      have cP8 := P5.cell 8 _ rfl
      have lA := A5.lt
      have lC := C5.lt
      have lX := X5.lt
      have lP := P5.lt
      go_wp2_with fail
      clear cA0 cA1 cA2 cA3 cA4 cA5 cA6 cA7 cA8 cC0 cC1 cC2 cC3 cC4 cC5 cC6 cC7 cC8 cX0 cX1 cX2 cX3 cX4 cX5 cX6 cX7 cX8 cP0 cP1 cP2 cP3 cP4 cP5 cP6 cP7 cP8 lA lC lX lP
      refine (rec_check _ x).mono ?_; rw [HC.out]; rintro e W6 ⟨rfl, bb⟩
      have A6 := A5.below bb A5.lt
      have C6 := C5.below bb C5.lt
      have X6 := X5.below bb X5.lt
      have P6 := P5.below bb P5.lt
      have B6 := bup B5 hle bb
      clear A5 C5 X5 P5 B5
      clear bb
      have hk := HK.out
      have cX0 := X6.cell 0 _ rfl
      have cX1 := X6.cell 1 _ rfl
      have cX2 := X6.cell 2 _ rfl
      have cX3 := X6.cell 3 _ rfl
      have cX4 := X6.cell 4 _ rfl
      have cX5 := X6.cell 5 _ rfl
      have cX6 := X6.cell 6 _ rfl
      have cX7 := X6.cell 7 _ rfl
      have cX8 := X6.cell 8 _ rfl
      have lA := A6.lt
      have lC := C6.lt
      have lX := X6.lt
      have lP := P6.lt
      go_wp2_with fail
      go_ret
      exact ⟨rfl, HH.out ▸ B6⟩
    · have HQ : Hid (entB ⟨j, ap0, ap1, ap2, av0, av1, av2, aa, ag⟩ ⟨j, bp0, bp1, bp2, bv0, bv1, bv2, ba, ag⟩ = true) := hq0
      clear hx hq0
      have cA0 := A0.cell 0 _ rfl
      have cA1 := A0.cell 1 _ rfl
      have cA2 := A0.cell 2 _ rfl
      have cA3 := A0.cell 3 _ rfl
      have cA4 := A0.cell 4 _ rfl
      have cA5 := A0.cell 5 _ rfl
      have cA6 := A0.cell 6 _ rfl
      have cA7 := A0.cell 7 _ rfl
      have cA8 := A0.cell 8 _ rfl
      have cC0 := C0.cell 0 _ rfl
      have cC1 := C0.cell 1 _ rfl
      have cC2 := C0.cell 2 _ rfl
      have cC3 := C0.cell 3 _ rfl
      have cC4 := C0.cell 4 _ rfl
      have cC5 := C0.cell 5 _ rfl
      have cC6 := C0.cell 6 _ rfl
      have cC7 := C0.cell 7 _ rfl
      have cC8 := C0.cell 8 _ rfl
      have lA := A0.lt
      have lC := C0.lt
      go_wp2_with fail
      clear cA0 cA1 cA2 cA3 cA4 cA5 cA6 cA7 cA8 cC0 cC1 cC2 cC3 cC4 cC5 cC6 cC7 cC8 lA lC
      refine (rec_diff _ ⟨j, ap0, ap1, ap2, av0, av1, av2, aa, ag⟩ ⟨j, bp0, bp1, bp2, bv0, bv1, bv2, ba, ag⟩).mono ?_; rw [HX.out, HQ.out]; rintro e W1 ⟨rfl, bb⟩
      have A1 := A0.below bb A0.lt
      have C1 := C0.below bb C0.lt
      have B1 := bup B0 hle bb
      clear A0 C0 B0
      clear bb
      have lA := A1.lt
      have lC := C1.lt
      go_wp2_with fail
      clear lA lC
      generalize hV : W1.alloc (.cells (recA x) 25) = W2
      obtain ⟨X2, bb, _⟩ := boxed hV
      clear hV
      have A2 := A1.below bb A1.lt
      have C2 := C1.below bb C1.lt
      have B2 := bup B1 hle bb
      clear A1 C1 B1
      obtain ⟨MX, hMX⟩ : ∃ M, W1.heap.size = M := ⟨_, rfl⟩
      rw [hMX] at X2
      rw [hMX]
      clear bb hMX
      refine (rec_alive _).mono ?_; rintro e W3 ⟨rfl, bb⟩
      have A3 := A2.below bb A2.lt
      have C3 := C2.below bb C2.lt
      have X3 := X2.below bb X2.lt
      have B3 := bup B2 hle bb
      clear A2 C2 X2 B2
      clear bb
      have hq := HQ.out
      have cA0 := A3.cell 0 _ rfl
      have cA1 := A3.cell 1 _ rfl
      have cA2 := A3.cell 2 _ rfl
      have cA3 := A3.cell 3 _ rfl
      have cA4 := A3.cell 4 _ rfl
      have cA5 := A3.cell 5 _ rfl
      have cA6 := A3.cell 6 _ rfl
      have cA7 := A3.cell 7 _ rfl
      have cA8 := A3.cell 8 _ rfl
      have cC0 := C3.cell 0 _ rfl
      have cC1 := C3.cell 1 _ rfl
      have cC2 := C3.cell 2 _ rfl
      have cC3 := C3.cell 3 _ rfl
      have cC4 := C3.cell 4 _ rfl
      have cC5 := C3.cell 5 _ rfl
      have cC6 := C3.cell 6 _ rfl
      have cC7 := C3.cell 7 _ rfl
      have cC8 := C3.cell 8 _ rfl
      have lA := A3.lt
      have lC := C3.lt
      have lX := X3.lt
      go_wp2_with fail
      go_ret
      exact ⟨rfl, HH.out ▸ B3⟩
  · have fc8 := C'.froz 8
    have la := A'.lt
    have lc := C'.lt
    have ca0 := A'.cell 0 _ rfl
    have cc0 := C'.cell 0 _ rfl
    have ca1 := A'.cell 1 _ rfl
    have cc1 := C'.cell 1 _ rfl
    have ca2 := A'.cell 2 _ rfl
    have cc2 := C'.cell 2 _ rfl
    have ca3 := A'.cell 3 _ rfl
    have cc3 := C'.cell 3 _ rfl
    have ca4 := A'.cell 4 _ rfl
    have cc4 := C'.cell 4 _ rfl
    have ca5 := A'.cell 5 _ rfl
    have cc5 := C'.cell 5 _ rfl
    have ca6 := A'.cell 6 _ rfl
    have cc6 := C'.cell 6 _ rfl
    have ca7 := A'.cell 7 _ rfl
    have cc7 := C'.cell 7 _ rfl
    have ca8 := A'.cell 8 _ rfl
    have cc8 := C'.cell 8 _ rfl
    go_wp2_with fail
    clear fc8 la lc ca0 cc0 ca1 cc1 ca2 cc2 ca3 cc3 ca4 cc4 ca5 cc5 ca6 cc6 ca7 cc7 ca8 cc8
    have C0 := C'.set 8 (.int .u8 ((ag + 1) % 256)) (by simp)
    simp only [List.set] at C0
    have A0 := A'.other (p := ⟨H + 1, 8, none⟩) (show H + 1 ≠ H by omega) (.int .u8 ((ag + 1) % 256))
    have B0 := B'.setCell (p := ⟨H + 1, 8, none⟩) (show H ≤ H + 1 by omega) (.int .u8 ((ag + 1) % 256))
    generalize V.setCell ⟨H + 1, 8, none⟩ (.int .u8 ((ag + 1) % 256)) = W0 at A0 C0 B0 ⊢
    clear A' C' B'
    have gb : 0 ≤ (ag + 1) % 256 ∧ (ag + 1) % 256 ≤ 255 := by omega
    obtain ⟨gg, hgg⟩ : ∃ gg, (ag + 1) % 256 = gg := ⟨_, rfl⟩
    have MJ := made_jump (a := ⟨j, ap0, ap1, ap2, av0, av1, av2, aa, ag⟩) (b := ⟨j, bp0, bp1, bp2, bv0, bv1, bv2, ba, gg⟩) rfl j0 j1 hgg.symm HG
    rw [hgg] at C0 gb
    rw [hgg]
    clear hgg
    obtain ⟨x, hx⟩ : ∃ x, difR ⟨j, ap0, ap1, ap2, av0, av1, av2, aa, ag⟩ ⟨j, bp0, bp1, bp2, bv0, bv1, bv2, ba, gg⟩ = x := ⟨_, rfl⟩
    rw [hx] at MJ
    obtain ⟨m0, m1, m2, m3, m4⟩ := MJ
    have HX : Hid (difR ⟨j, ap0, ap1, ap2, av0, av1, av2, aa, ag⟩ ⟨j, bp0, bp1, bp2, bv0, bv1, bv2, ba, gg⟩ = x) := hx
    have HQ : Hid (entB ⟨j, ap0, ap1, ap2, av0, av1, av2, aa, ag⟩ ⟨j, bp0, bp1, bp2, bv0, bv1, bv2, ba, gg⟩ = false) := m0
    have HC : Hid (chk x = 0) := m2
    have HE : Hid (appE ⟨j, ap0, ap1, ap2, av0, av1, av2, aa, ag⟩ x = 0) := m3
    have HN : Hid (appN ⟨j, ap0, ap1, ap2, av0, av1, av2, aa, ag⟩ x = ⟨j, bp0, bp1, bp2, bv0, bv1, bv2, ba, gg⟩) := m4
    have HK : Hid (x.k = 3) := (by rw [m1] : x.k = 3)
    clear m0 m1 m2 m3 m4 hx
    refine (rec_diff _ ⟨j, ap0, ap1, ap2, av0, av1, av2, aa, ag⟩ ⟨j, bp0, bp1, bp2, bv0, bv1, bv2, ba, gg⟩).mono ?_; rw [HX.out, HQ.out]; rintro e W1 ⟨rfl, bb⟩
    have A1 := A0.below bb A0.lt
    have C1 := C0.below bb C0.lt
    have B1 := bup B0 hle bb
    clear A0 C0 B0
    clear bb
    have cA0 := A1.cell 0 _ rfl
    have cA1 := A1.cell 1 _ rfl
    have cA2 := A1.cell 2 _ rfl
    have cA3 := A1.cell 3 _ rfl
    have cA4 := A1.cell 4 _ rfl
    have cA5 := A1.cell 5 _ rfl
    have cA6 := A1.cell 6 _ rfl
    have cA7 := A1.cell 7 _ rfl
    have cA8 := A1.cell 8 _ rfl
    have lA := A1.lt
    have lC := C1.lt
    go_wp2_with fail
    clear cA0 cA1 cA2 cA3 cA4 cA5 cA6 cA7 cA8 lA lC
    generalize hV : W1.alloc (.cells (recA x) 25) = W2
    obtain ⟨X2, bb, _⟩ := boxed hV
    clear hV
    have A2 := A1.below bb A1.lt
    have C2 := C1.below bb C1.lt
    have B2 := bup B1 hle bb
    clear A1 C1 B1
    obtain ⟨MX, hMX⟩ : ∃ M, W1.heap.size = M := ⟨_, rfl⟩
    rw [hMX] at X2
    rw [hMX]
    clear bb hMX
    refine (rec_apply _ ⟨j, ap0, ap1, ap2, av0, av1, av2, aa, ag⟩ x).mono ?_; rw [HN.out, HE.out]; rintro e W3 ⟨rfl, bb⟩
    have A3 := A2.below bb A2.lt
    have C3 := C2.below bb C2.lt
    have X3 := X2.below bb X2.lt
    have B3 := bup B2 hle bb
    clear A2 C2 X2 B2
    clear bb
    have lA := A3.lt
    have lC := C3.lt
    have lX := X3.lt
    go_wp2_with fail
    clear lA lC lX
    generalize hV : W3.alloc (.cells (entA ⟨j, bp0, bp1, bp2, bv0, bv1, bv2, ba, gg⟩) 49) = W4
    obtain ⟨P4, bb, _⟩ := boxed hV
    clear hV
    have A4 := A3.below bb A3.lt
    have C4 := C3.below bb C3.lt
    have X4 := X3.below bb X3.lt
    have B4 := bup B3 hle bb
    clear A3 C3 X3 B3
    obtain ⟨MP, hMP⟩ : ∃ M, W3.heap.size = M := ⟨_, rfl⟩
    rw [hMP] at P4
    rw [hMP]
    clear bb hMP
    refine (rec_alive _).mono ?_; rintro e W5 ⟨rfl, bb⟩
    have A5 := A4.below bb A4.lt
    have C5 := C4.below bb C4.lt
    have X5 := X4.below bb X4.lt
    have P5 := P4.below bb P4.lt
    have B5 := bup B4 hle bb
    clear A4 C4 X4 P4 B4
    clear bb
    have hq := HQ.out
    have hs : entB ⟨j, bp0, bp1, bp2, bv0, bv1, bv2, ba, gg⟩ ⟨j, bp0, bp1, bp2, bv0, bv1, bv2, ba, gg⟩ = true := entB_same _
    have cA0 := A5.cell 0 _ rfl
    have cA1 := A5.cell 1 _ rfl
    have cA2 := A5.cell 2 _ rfl
    have cA3 := A5.cell 3 _ rfl
    have cA4 := A5.cell 4 _ rfl
    have cA5 := A5.cell 5 _ rfl
    have cA6 := A5.cell 6 _ rfl
    have cA7 := A5.cell 7 _ rfl
    have cA8 := A5.cell 8 _ rfl
    have cC0 := C5.cell 0 _ rfl
    have cC1 := C5.cell 1 _ rfl
    have cC2 := C5.cell 2 _ rfl
    have cC3 := C5.cell 3 _ rfl
    have cC4 := C5.cell 4 _ rfl
    have cC5 := C5.cell 5 _ rfl
    have cC6 := C5.cell 6 _ rfl
    have cC7 := C5.cell 7 _ rfl
    have cC8 := C5.cell 8 _ rfl
    have cX0 := X5.cell 0 _ rfl
    have cX1 := X5.cell 1 _ rfl
    have cX2 := X5.cell 2 _ rfl
    have cX3 := X5.cell 3 _ rfl
    have cX4 := X5.cell 4 _ rfl
    have cX5 := X5.cell 5 _ rfl
    have cX6 := X5.cell 6 _ rfl
    have cX7 := X5.cell 7 _ rfl
    have cX8 := X5.cell 8 _ rfl
    have cP0 := P5.cell 0 _ rfl
    have cP1 := P5.cell 1 _ rfl
    have cP2 := P5.cell 2 _ rfl
    have cP3 := P5.cell 3 _ rfl
    have cP4 := P5.cell 4 _ rfl
    have cP5 := P5.cell 5 _ rfl
    have cP6 := P5.cell 6 _ rfl
    have cP7 := P5.cell 7 _ rfl
    have cP8 := P5.cell 8 _ rfl
    have lA := A5.lt
    have lC := C5.lt
    have lX := X5.lt
    have lP := P5.lt
    go_wp2_with fail
    clear cA0 cA1 cA2 cA3 cA4 cA5 cA6 cA7 cA8 cC0 cC1 cC2 cC3 cC4 cC5 cC6 cC7 cC8 cX0 cX1 cX2 cX3 cX4 cX5 cX6 cX7 cX8 cP0 cP1 cP2 cP3 cP4 cP5 cP6 cP7 cP8 lA lC lX lP
    refine (rec_check _ x).mono ?_; rw [HC.out]; rintro e W6 ⟨rfl, bb⟩
    have A6 := A5.below bb A5.lt
    have C6 := C5.below bb C5.lt
    have X6 := X5.below bb X5.lt
    have P6 := P5.below bb P5.lt
    have B6 := bup B5 hle bb
    clear A5 C5 X5 P5 B5
    clear bb
    have hk := HK.out
    have cX0 := X6.cell 0 _ rfl
    have cX1 := X6.cell 1 _ rfl
    have cX2 := X6.cell 2 _ rfl
    have cX3 := X6.cell 3 _ rfl
    have cX4 := X6.cell 4 _ rfl
    have cX5 := X6.cell 5 _ rfl
    have cX6 := X6.cell 6 _ rfl
    have cX7 := X6.cell 7 _ rfl
    have cX8 := X6.cell 8 _ rfl
    have lA := A6.lt
    have lC := C6.lt
    have lX := X6.lt
    have lP := P6.lt
    go_wp2_with fail
    go_ret
    exact ⟨rfl, HH.out ▸ B6⟩

set_option maxRecDepth 100000 in
theorem lifted (os : Os) (started : os.Started) (H : Type) (enc : TypeId × Value → H) :
    ReturnsInHanded {} Try.checked os 8 .any (Rows.recordMakesSpec.pre6 enc Try.prog Try.f8 Rows.recordMakesRow.domain false) (Rows.recordMakesSpec.post enc Try.prog Try.f8 false true false false) := by
  refine returnsInHanded_of_change (C := Try.checked) own started (by kernel_rfl) Try.func8
    (ChangeSpec.witness6 (enc := enc) (C := Try.checked) false ⟨#[], #[.agg #[.int .i64 0, .int .i64 0, .int .i64 0, .int .i64 0, .int .i64 0, .int .i64 0, .int .i64 0, .int .u16 0, .int .u8 0], .agg #[.int .i64 0, .int .i64 0, .int .i64 0, .int .i64 0, .int .i64 0, .int .i64 0, .int .i64 0, .int .u16 0, .int .u8 0], .bool false], []⟩ 8 (by kernel_rfl) (by kernel_rfl) (by kernel_rfl) (by kernel_rfl)) ?_
  intro W base args ds gs before hval0 hW hcnd _
  have hval : ∀ (j : Nat) t v, Try.f8.params[j]? = some t → args[j]? = some v → Value.okWide Try.prog W .any base t v := hval0
  have hW' := hW
  obtain ⟨p, q, hA0, hV, rfl, hfz, hnd⟩ := hW
  have hA : DataW.TrodAll enc Try.prog W 0 (fun _ => true) true Try.f8.params.toList args.toList ds p := hA0
  rw [Try.params8] at hA hval
  obtain ⟨v0, vs0, d0, ds0, p0, q0, hargs, rfl, rfl, h0, r0⟩ := trodAll_cons hA
  obtain ⟨v1, vs1, d1, ds1, p1, q1, rfl, rfl, rfl, h1, r1⟩ := trodAll_cons r0
  obtain ⟨v2, vs2, d2, ds2, p2, q2, rfl, rfl, rfl, h2, r2⟩ := trodAll_cons r1
  obtain ⟨rfl, rfl, rfl⟩ := trodAll_nil r2
  obtain rfl : args = #[v0, v1, v2] := by cases args; simp_all
  obtain ⟨rfl, rfl⟩ := trodVars_none hV
  have hlt := hW'.lt
  have k0 := h0
  obtain ⟨rc0, e0, b0⟩ := open_ent (hval 0 49 v0 rfl rfl) h0
  subst e0
  have k1 := h1
  obtain ⟨rc1, e1, b1⟩ := open_ent (hval 1 49 v1 rfl rfl) h1
  subst e1
  have k2 := h2
  obtain ⟨b2, e2, _, _⟩ := open_bool Try.underlying4 (hval 2 4 v2 rfl rfl) h2
  subst e2
  clear hA0 hval0
  refine (walk W rc0 b0 rc1 b1 b2).mono fun e W' ⟨he, hg⟩ => ?_
  subst he
  exact ⟨_, rfl, post_of_below hW' (fun _ _ _ => (trodAll_cons_mk (shut_bool Try.underlying4 _) trodAll_mk0)) (trodAll_cons_mk (Below.trod laidOut (by kernel_rfl) (of_decide_eq_true (by kernel_rfl)) k0 hg (fun x hx => by first | exact absurd hx (by simp) | exact hlt x (by simp [hx]))) (trodAll_cons_mk (Below.trod laidOut (by kernel_rfl) (of_decide_eq_true (by kernel_rfl)) k1 hg (fun x hx => by first | exact absurd hx (by simp) | exact hlt x (by simp [hx]))) (trodAll_cons_mk (Below.trod laidOut (by kernel_rfl) (of_decide_eq_true (by kernel_rfl)) k2 hg (fun x hx => by first | exact absurd hx (by simp) | exact hlt x (by simp [hx]))) trodAll_mk0))) rfl hg⟩

theorem over : Rows.recordMakesRow.holds Try.pinned (OpenSpec.ofChange Rows.recordMakesSpec) :=
  OpenClaim.holds_of_wide 8 Try.f8 rfl rfl rfl rfl rfl rfl rfl ⟨rfl, rfl, rfl, rfl, rfl⟩ rfl rfl rfl rfl rfl (by kernel_rfl) Try.func8 (by kernel_rfl)
    (of_decide_eq_true (by kernel_rfl)) (by unfold Func.isWrapper; first | (rw [if_pos (by decide +kernel)]; kernel_rfl) | (rw [if_neg (by decide +kernel)]; exact ⟨rfl, rfl⟩))
    (fun os started H enc _ => lifted os started H enc)
end RecordMakesL

theorem recordMakes_proved : Rows.RecordMakesSaid := RecordMakesL.over
#print axioms recordMakes_proved
end Go.Proofs.Ytjjaodlgnoiheaa
