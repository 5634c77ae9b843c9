/-
  Layer 8 (record): other, differences.
-/
import Derived.Test.YtjjaodlgnoiheaaRec12
namespace Go.Proofs.Ytjjaodlgnoiheaa
open Go.RowKit
set_option linter.unusedVariables false

theorem and_pow {m : Int} {k : Nat} (hk : k ≤ 6) (h0 : 0 ≤ m) (h1 : m ≤ 255) : bits .and .u8 m (2 ^ k) = if bitB m k then 2 ^ k else 0 := by
  obtain ⟨n, rfl⟩ := Int.eq_ofNat_of_zero_le h0
  have h := and_bit ⟨k, by omega⟩ ⟨n, by omega⟩
  simp only at h
  rw [h]
  unfold bitB
  have e : (((n / 2 ^ k % 2 : Nat)) : Int) = (n : Int) / 2 ^ k % 2 := by simp
  by_cases g : n / 2 ^ k % 2 = 1
  · rw [if_pos g, if_pos (by rw [decide_eq_true_iff]; omega)]
  · rw [if_neg g, if_neg (by rw [decide_eq_true_iff]; omega)]
theorem rec_otherI (w : World) (K R : Nat) (s : St) (x : Int) (h : Rdr w K R s) : Calls Try.prog 69 #[.pointer (some ⟨R, 0, none⟩), .int .i64 x] w fun e w' => e = .returned (.int .i64 x) ∧ Rdr w' K R (othS x s) ∧ Ch R w w' := by
  have HR : Hid (Rdr w K R s) := h
  clear h
  obtain ⟨q, hq⟩ : ∃ q, othS x s = q := ⟨_, rfl⟩
  have HQ : Hid (othS x s = q) := hq
  rw [hq]
  clear hq
  go_enter Try.func69, Try.ntmps69
  by_cases hx : x = 0
  · have e : q = failS s 7 := by rw [← HQ.out]; unfold othS; rw [if_pos hx]
    clear HQ
    subst hx
    go_wp2_with fail
    refine (fail_any _ K R _ 7 HR.out).mono ?_; rintro e' w1 ⟨rfl, r1, g1⟩
    go_wp2_with fail
    go_ret
    exact ⟨rfl, by rw [e]; exact r1, g1⟩
  · have e : q = s := by rw [← HQ.out]; unfold othS; rw [if_neg hx]
    clear HQ
    go_wp2_with fail
    go_ret
    exact ⟨rfl, by rw [e]; exact HR.out, Ch.refl _ _⟩
theorem rec_otherU (w : World) (K R : Nat) (s : St) (x : Int) (h : Rdr w K R s) : Calls Try.prog 62 #[.pointer (some ⟨R, 0, none⟩), .int .u64 x] w fun e w' => e = .returned (.int .u64 x) ∧ Rdr w' K R (othS x s) ∧ Ch R w w' := by
  have HR : Hid (Rdr w K R s) := h
  clear h
  obtain ⟨q, hq⟩ : ∃ q, othS x s = q := ⟨_, rfl⟩
  have HQ : Hid (othS x s = q) := hq
  rw [hq]
  clear hq
  go_enter Try.func62, Try.ntmps62
  by_cases hx : x = 0
  · have e : q = failS s 7 := by rw [← HQ.out]; unfold othS; rw [if_pos hx]
    clear HQ
    subst hx
    go_wp2_with fail
    refine (fail_any _ K R _ 7 HR.out).mono ?_; rintro e' w1 ⟨rfl, r1, g1⟩
    go_wp2_with fail
    go_ret
    exact ⟨rfl, by rw [e]; exact r1, g1⟩
  · have e : q = s := by rw [← HQ.out]; unfold othS; rw [if_neg hx]
    clear HQ
    go_wp2_with fail
    go_ret
    exact ⟨rfl, by rw [e]; exact HR.out, Ch.refl _ _⟩
set_option maxRecDepth 8000 in
set_option maxHeartbeats 2000000 in
theorem rec_diffs (w : World) (K R : Nat) (s : St) (m : Int) (h0 : 0 ≤ m) (h1 : m ≤ 255) (h : Rdr w K R s) : Calls Try.prog 61 #[.pointer (some ⟨R, 0, none⟩), .int .u8 m] w fun e w' =>
    e = .returned (.agg #[.int .i64 (difA m s 0), .int .i64 (difA m s 1), .int .i64 (difA m s 2)]) ∧ Rdr w' K R (difS m s 3) ∧ Ch R w w' := by
  have HR : Hid (Rdr w K R s) := h
  have lt := h.lt
  have hK := h.hK
  clear h
  have P0 : Hid (bits .and .u8 m (2 ^ 0) = if bitB m 0 then 2 ^ 0 else 0) := and_pow (by omega) h0 h1
  have P1 : Hid (bits .and .u8 m (2 ^ 1) = if bitB m 1 then 2 ^ 1 else 0) := and_pow (by omega) h0 h1
  have P2 : Hid (bits .and .u8 m (2 ^ 2) = if bitB m 2 then 2 ^ 2 else 0) := and_pow (by omega) h0 h1
  obtain ⟨d0, e0⟩ : ∃ d, difA m s 0 = d := ⟨_, rfl⟩
  obtain ⟨d1, e1⟩ : ∃ d, difA m s 1 = d := ⟨_, rfl⟩
  obtain ⟨d2, e2⟩ : ∃ d, difA m s 2 = d := ⟨_, rfl⟩
  have E0 : Hid (difA m s 0 = d0) := e0
  have E1 : Hid (difA m s 1 = d1) := e1
  have E2 : Hid (difA m s 2 = d2) := e2
  rw [e0, e1, e2]
  clear e0 e1 e2
  obtain ⟨f, f0, f1, f2, f3⟩ : ∃ f : Nat → List Value, f 0 = [.int .i64 0, .int .i64 0, .int .i64 0] ∧ f 1 = [.int .i64 (d0), .int .i64 0, .int .i64 0] ∧ f 2 = [.int .i64 (d0), .int .i64 (d1), .int .i64 0] ∧ f 3 = [.int .i64 (d0), .int .i64 (d1), .int .i64 (d2)] := ⟨fun n => if n = 0 then [.int .i64 0, .int .i64 0, .int .i64 0] else if n = 1 then [.int .i64 (d0), .int .i64 0, .int .i64 0] else if n = 2 then [.int .i64 (d0), .int .i64 (d1), .int .i64 0] else [.int .i64 (d0), .int .i64 (d1), .int .i64 (d2)], rfl, rfl, rfl, rfl⟩
  have F0 : Hid (f 0 = [.int .i64 0, .int .i64 0, .int .i64 0]) := f0
  have F1 : Hid (f 1 = [.int .i64 (d0), .int .i64 0, .int .i64 0]) := f1
  have F2 : Hid (f 2 = [.int .i64 (d0), .int .i64 (d1), .int .i64 0]) := f2
  have F3 : Hid (f 3 = [.int .i64 (d0), .int .i64 (d1), .int .i64 (d2)]) := f3
  clear f0 f1 f2 f3
  go_enter Try.func61, Try.ntmps61
  go_wp2_with fail
  generalize hW : (w.alloc (.cells #[.int .i64 0, .int .i64 0, .int .i64 0] 22)).alloc (.cells #[.int .i64 0, .int .i64 0, .int .i64 0] 22) = W
  have X0 : Blk W w.heap.size [.int .i64 0, .int .i64 0, .int .i64 0] := by rw [← hW]; exact (Blk.new w _ _ rfl).alloc _
  have Y0 : Blk W (w.heap.size + 1) [.int .i64 0, .int .i64 0, .int .i64 0] := by rw [← hW]; exact Blk.new _ _ _ (by simp)
  have G0 : Ch R w W := by rw [← hW]; exact Ch.of (((Below.refl _ _).alloc (Nat.le_refl _) _).alloc (by simp) _) (by omega)
  have R0 : Rdr W K R s := HR.out.below (B := w.heap.size) (by rw [← hW]; exact ((Below.refl _ _).alloc (Nat.le_refl _) _).alloc (by simp) _) lt
  clear hW HR
  obtain ⟨H, hH⟩ : ∃ H, w.heap.size = H := ⟨_, rfl⟩
  have HHl : w.heap.size ≤ H := by omega
  have HHg : H ≤ w.heap.size := by omega
  rw [hH] at X0 Y0 lt
  rw [hH]
  clear hH
  have XX : Hid (Blk W H [.int .i64 0, .int .i64 0, .int .i64 0]) := X0
  have YY : Hid (Blk W (H + 1) (f 0)) := by rw [F0.out]; exact Y0
  have GG : Hid (Ch R w W) := G0
  have RR : Hid (Rdr W K R s) := R0
  clear X0 Y0 G0 R0
  go_loopw [7] (fun i wr => ∃ k : Nat, k ≤ 3 ∧ i = .int .i64 k ∧ Blk wr H [.int .i64 0, .int .i64 0, .int .i64 0] ∧ Blk wr (H + 1) (f k) ∧ Rdr wr K R (difS m s k) ∧ Ch R w wr) (fun i _ => 3 - (intOf i).toNat)
  case atStart => exact ⟨0, by omega, rfl, XX.out, YY.out, RR.out, GG.out⟩
  case round =>
    obtain ⟨k, hk, rfl, X0, Y0, r0, G0⟩ := hrel
    clear XX YY GG RR
    have R0 : Hid (Rdr wr K R (difS m s k)) := r0
    clear r0
    by_cases g0 : k = 0
    · subst g0
      rw [F0.out] at Y0
      have y := Y0.cell 0 _ rfl
      have yf := Y0.froz 0
      have yl := Y0.lt
      have xl := X0.lt
      cases hb : bitB m 0
      · have P : bits .and .u8 m 1 = 0 := by have h := P0.out; rw [hb] at h; simpa using h
        have HD : Hid (difS m s 1 = difS m s 0) := (by show stepS _ _ = _; rw [hb]; rfl : difS m s 1 = difS m s 0)
        have HZ : d0 = 0 := by rw [← E0.out]; unfold difA; rw [hb]; rfl
        go_wp2_with fail
        go_roundw
        case rel => exact ⟨1, by omega, by go_num, X0, by rw [F1.out, HZ]; exact Y0, by rw [HD.out]; exact R0.out, G0⟩
        case measure => simp [intOf]
      · have P : bits .and .u8 m 1 = 1 := by have h := P0.out; rw [hb] at h; simpa using h
        obtain ⟨s', hs'⟩ : ∃ s', difS m s 0 = s' := ⟨_, rfl⟩
        have HD : Hid (difS m s 1 = othS d0 (intS s')) := (by rw [← E0.out]; unfold difA; show stepS _ _ = _; rw [hb, hs']; rfl : difS m s 1 = othS d0 (intS s'))
        have HZ : Hid (intA s' = d0) := (by rw [← E0.out]; unfold difA; rw [hb, hs']; rfl : intA s' = d0)
        rw [hs'] at R0
        clear hs'
        go_wp2_with fail
        refine (int_any _ K R _ R0.out).mono ?_; rw [HZ.out]; rintro e w1 ⟨rfl, r1, g1'⟩
        have X1 := X0.ch g1' (by omega)
        have Y1 := Y0.ch g1' (by omega)
        have G1 := G0.trans g1'
        have R1 : Hid (Rdr w1 K R (intS s')) := r1
        clear r1 g1' y yf yl xl X0 Y0 G0 R0
        go_wp2_with fail
        refine (rec_otherI _ K R _ d0 R1.out).mono ?_; rintro e w2 ⟨rfl, r2, g2'⟩
        have X2 := X1.ch g2' (by omega)
        have Y2 := Y1.ch g2' (by omega)
        have G2 := G1.trans g2'
        have R2 : Hid (Rdr w2 K R (othS d0 (intS s'))) := r2
        clear r2 g2' X1 Y1 G1 R1
        have y := Y2.cell 0 _ rfl
        have yf := Y2.froz 0
        have yl := Y2.lt
        go_wp2_with fail
        have Y3 := Y2.set 0 (.int .i64 d0) (by simp)
        simp only [List.set] at Y3
        have X3 := X2.other (p := ⟨H + 1, 0, none⟩) (show H + 1 ≠ H by omega) (.int .i64 d0)
        have G3 := G2.setNew (p := ⟨H + 1, 0, none⟩) (by omega) (show w.heap.size ≤ H + 1 by omega) (.int .i64 d0)
        have R3 := R2.out.ch ((Ch.refl (H + 1) _).set 0 (.int .i64 d0)) (by omega) (by omega)
        go_roundw
        case rel => exact ⟨1, by omega, by go_num, X3, by rw [F1.out]; exact Y3, by rw [HD.out]; exact R3, G3⟩
        case measure => simp [intOf]
    by_cases g1 : k = 1
    · subst g1
      rw [F1.out] at Y0
      have y := Y0.cell 1 _ rfl
      have yf := Y0.froz 1
      have yl := Y0.lt
      have xl := X0.lt
      cases hb : bitB m 1
      · have P : bits .and .u8 m 2 = 0 := by have h := P1.out; rw [hb] at h; simpa using h
        have HD : Hid (difS m s 2 = difS m s 1) := (by show stepS _ _ = _; rw [hb]; rfl : difS m s 2 = difS m s 1)
        have HZ : d1 = 0 := by rw [← E1.out]; unfold difA; rw [hb]; rfl
        go_wp2_with fail
        go_roundw
        case rel => exact ⟨2, by omega, by go_num, X0, by rw [F2.out, HZ]; exact Y0, by rw [HD.out]; exact R0.out, G0⟩
        case measure => simp [intOf]
      · have P : bits .and .u8 m 2 = 2 := by have h := P1.out; rw [hb] at h; simpa using h
        obtain ⟨s', hs'⟩ : ∃ s', difS m s 1 = s' := ⟨_, rfl⟩
        have HD : Hid (difS m s 2 = othS d1 (intS s')) := (by rw [← E1.out]; unfold difA; show stepS _ _ = _; rw [hb, hs']; rfl : difS m s 2 = othS d1 (intS s'))
        have HZ : Hid (intA s' = d1) := (by rw [← E1.out]; unfold difA; rw [hb, hs']; rfl : intA s' = d1)
        rw [hs'] at R0
        clear hs'
        go_wp2_with fail
        refine (int_any _ K R _ R0.out).mono ?_; rw [HZ.out]; rintro e w1 ⟨rfl, r1, g1'⟩
        have X1 := X0.ch g1' (by omega)
        have Y1 := Y0.ch g1' (by omega)
        have G1 := G0.trans g1'
        have R1 : Hid (Rdr w1 K R (intS s')) := r1
        clear r1 g1' y yf yl xl X0 Y0 G0 R0
        go_wp2_with fail
        refine (rec_otherI _ K R _ d1 R1.out).mono ?_; rintro e w2 ⟨rfl, r2, g2'⟩
        have X2 := X1.ch g2' (by omega)
        have Y2 := Y1.ch g2' (by omega)
        have G2 := G1.trans g2'
        have R2 : Hid (Rdr w2 K R (othS d1 (intS s'))) := r2
        clear r2 g2' X1 Y1 G1 R1
        have y := Y2.cell 1 _ rfl
        have yf := Y2.froz 1
        have yl := Y2.lt
        go_wp2_with fail
        have Y3 := Y2.set 1 (.int .i64 d1) (by simp)
        simp only [List.set] at Y3
        have X3 := X2.other (p := ⟨H + 1, 1, none⟩) (show H + 1 ≠ H by omega) (.int .i64 d1)
        have G3 := G2.setNew (p := ⟨H + 1, 1, none⟩) (by omega) (show w.heap.size ≤ H + 1 by omega) (.int .i64 d1)
        have R3 := R2.out.ch ((Ch.refl (H + 1) _).set 1 (.int .i64 d1)) (by omega) (by omega)
        go_roundw
        case rel => exact ⟨2, by omega, by go_num, X3, by rw [F2.out]; exact Y3, by rw [HD.out]; exact R3, G3⟩
        case measure => simp [intOf]
    by_cases g2 : k = 2
    · subst g2
      rw [F2.out] at Y0
      have y := Y0.cell 2 _ rfl
      have yf := Y0.froz 2
      have yl := Y0.lt
      have xl := X0.lt
      cases hb : bitB m 2
      · have P : bits .and .u8 m 4 = 0 := by have h := P2.out; rw [hb] at h; simpa using h
        have HD : Hid (difS m s 3 = difS m s 2) := (by show stepS _ _ = _; rw [hb]; rfl : difS m s 3 = difS m s 2)
        have HZ : d2 = 0 := by rw [← E2.out]; unfold difA; rw [hb]; rfl
        go_wp2_with fail
        go_roundw
        case rel => exact ⟨3, by omega, by go_num, X0, by rw [F3.out, HZ]; exact Y0, by rw [HD.out]; exact R0.out, G0⟩
        case measure => simp [intOf]
      · have P : bits .and .u8 m 4 = 4 := by have h := P2.out; rw [hb] at h; simpa using h
        obtain ⟨s', hs'⟩ : ∃ s', difS m s 2 = s' := ⟨_, rfl⟩
        have HD : Hid (difS m s 3 = othS d2 (intS s')) := (by rw [← E2.out]; unfold difA; show stepS _ _ = _; rw [hb, hs']; rfl : difS m s 3 = othS d2 (intS s'))
        have HZ : Hid (intA s' = d2) := (by rw [← E2.out]; unfold difA; rw [hb, hs']; rfl : intA s' = d2)
        rw [hs'] at R0
        clear hs'
        go_wp2_with fail
        refine (int_any _ K R _ R0.out).mono ?_; rw [HZ.out]; rintro e w1 ⟨rfl, r1, g1'⟩
        have X1 := X0.ch g1' (by omega)
        have Y1 := Y0.ch g1' (by omega)
        have G1 := G0.trans g1'
        have R1 : Hid (Rdr w1 K R (intS s')) := r1
        clear r1 g1' y yf yl xl X0 Y0 G0 R0
        go_wp2_with fail
        refine (rec_otherI _ K R _ d2 R1.out).mono ?_; rintro e w2 ⟨rfl, r2, g2'⟩
        have X2 := X1.ch g2' (by omega)
        have Y2 := Y1.ch g2' (by omega)
        have G2 := G1.trans g2'
        have R2 : Hid (Rdr w2 K R (othS d2 (intS s'))) := r2
        clear r2 g2' X1 Y1 G1 R1
        have y := Y2.cell 2 _ rfl
        have yf := Y2.froz 2
        have yl := Y2.lt
        go_wp2_with fail
        have Y3 := Y2.set 2 (.int .i64 d2) (by simp)
        simp only [List.set] at Y3
        have X3 := X2.other (p := ⟨H + 1, 2, none⟩) (show H + 1 ≠ H by omega) (.int .i64 d2)
        have G3 := G2.setNew (p := ⟨H + 1, 2, none⟩) (by omega) (show w.heap.size ≤ H + 1 by omega) (.int .i64 d2)
        have R3 := R2.out.ch ((Ch.refl (H + 1) _).set 2 (.int .i64 d2)) (by omega) (by omega)
        go_roundw
        case rel => exact ⟨3, by omega, by go_num, X3, by rw [F3.out]; exact Y3, by rw [HD.out]; exact R3, G3⟩
        case measure => simp [intOf]
    · obtain rfl : k = 3 := by omega
      rw [F3.out] at Y0
      have x0 := Y0.cell 0 _ rfl
      have x1 := Y0.cell 1 _ rfl
      have x2 := Y0.cell 2 _ rfl
      have y0 := X0.cell 0 _ rfl
      have y1 := X0.cell 1 _ rfl
      have y2 := X0.cell 2 _ rfl
      have v0 := X0.froz 0
      have v1 := X0.froz 1
      have v2 := X0.froz 2
      have xl := X0.lt
      have yl := Y0.lt
      go_wp2_with fail
      refine bodyPost_ret (v := .agg #[.int .i64 d0, .int .i64 d1, .int .i64 d2]) (by simp [results, Try.results61, go_sem, y0, y1, y2]) rfl ?_
      refine ⟨rfl, ?_, ?_⟩
      · refine R0.out.ch (M := H) ?_ (by omega) (by omega)
        repeat' (first | exact Ch.refl _ _ | refine Ch.set ?_ _ _)
      · repeat' (first | exact G0 | refine Ch.setNew ?_ (by omega) (show w.heap.size ≤ H by omega) _)
end Go.Proofs.Ytjjaodlgnoiheaa
