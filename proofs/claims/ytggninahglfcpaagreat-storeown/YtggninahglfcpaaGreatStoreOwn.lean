/-
  Proved: what a store is told and what it tells are no longer its own nor the asker's: bytes may be written over behind it, and so may the snapshots that it told (the law StoreOwn answers true at every input).
  Conditions: none.
-/
import Derived.Test.YtggninahglfcpaaGreatRows
import Derived.Test.YtggninahglfcpaaGreatP39
namespace Go.Proofs.YtggninahglfcpaaGreat
open Go.ChangeShapes Go.WideShapes Go.ChangeAt Go.RowKit
set_option linter.unusedVariables false

namespace StoreOwnL
theorem own : ownKnob Tryz.prog.godebug = none := by kernel_rfl

set_option maxRecDepth 20000 in
set_option maxHeartbeats 8000000 in
theorem walk (w : World) (t m : Int) (u : Value) (n : Nat) (A : Nat → En) (st : S64 t) (sm : S64 m) (hA : ∀ i, i < n → (A i).ok) (hv : RdE w u n A) (by_ : Int) (hy : (Lit.int .u16 by_).wf = true) :
    Calls Tryz.prog 8 #[snV t m u, .int .u16 by_] w fun e w' => e = .returned (.bool true) ∧ Below w.heap.size w w' := by
  have HX : Hid (RdE w u n A) := hv
  have FU : Hid (∀ w', Below w.heap.size w w' → Calls Tryz.prog 24 #[snV t m u] w' fun e w'' => ∃ gu, e = .returned (.tuple #[gmV (fulG t m (preE A n)) gu, .int .i64 (fulE t m (preE A n))]) ∧ OwnR w'' w'.heap.size gu (fulL t m (preE A n)) ∧ Below w'.heap.size w' w'') := fun w' h => dl_full w' t m _ n A (hv.below h)
  have OKL : ∀ i, i < (fulL t m (preE A n)).length → (atR (fulL t m (preE A n)) i).ok := by
    by_cases h : fulE t m (preE A n) = 0
    · exact atR_ok (ful_told h (pre_ent hA)).2.2.ok
    · intro i hi
      have : fulL t m (preE A n) = [] := by unfold fulL; rw [if_neg h]
      rw [this] at hi; simp at hi
  have OKG : (fulG t m (preE A n)).ok := by
    unfold fulG
    split
    · exact ⟨st, sm, by unfold S64; simp only; omega⟩
    · exact ⟨by unfold S64; simp only; omega, by unfold S64; simp only; omega, by unfold S64; simp only; omega⟩
  have WR : Hid (∀ w' gu, RdR w' gu (fulL t m (preE A n)).length (atR (fulL t m (preE A n))) → Calls Tryz.prog 26 #[gmV (fulG t m (preE A n)) gu] w' fun e w'' => ∃ b, e = .returned (.tuple #[b, .int .i64 (wrtE (fulG t m (preE A n)) (atR (fulL t m (preE A n))) (fulL t m (preE A n)).length)]) ∧ Own w'' w'.heap.size b (wrtB (fulG t m (preE A n)) (atR (fulL t m (preE A n))) (fulL t m (preE A n)).length) ∧ Below w'.heap.size w' w'') := fun w' gu h => gm_write w' _ OKG gu _ _ OKL h
  have KP : Hid (fulE t m (preE A n) = 0 → wrtE (fulG t m (preE A n)) (atR (fulL t m (preE A n))) (fulL t m (preE A n)).length = 0 → ∀ l, wrtB (fulG t m (preE A n)) (atR (fulL t m (preE A n))) (fulL t m (preE A n)).length = l → Bytes l ∧ l.length ≤ 4096 ∧ 10 ≤ l.length ∧ tkE (emptyS 2) l = 0 ∧ tkT (emptyS 2) l = t ∧ (accS (emptyS 2) l).L = [⟨t, m, preE A n⟩] ∧ (accS (emptyS 2) l).M = 2 ∧ n ≤ 64) := fun h h2 l hl => by
    obtain ⟨h3, h4, h5, h6, h7, h8⟩ := back_gram (g := fulG t m (preE A n)) (A := atR (fulL t m (preE A n))) (n := (fulL t m (preE A n)).length) OKL h2
    have h9 := rgE_zero h3
    have hb : Bytes (wrtB (fulG t m (preE A n)) (atR (fulL t m (preE A n))) (fulL t m (preE A n)).length) := by rw [h7]; exact sealed_ok (gmB_ok OKL (wrt_ok h2).1).1
    rw [hl] at h3 h4 h5 h6 h9 hb
    have hg : fulG t m (preE A n) = ⟨t, m, -1⟩ := by unfold fulG; rw [if_pos h]
    obtain ⟨f1, f2, f3, f4⟩ := ful_kept (pre_ent hA) 2 (by omega) h l h3 (by rw [h4, hg]) (by rw [h5, pre_atR])
    have hn := (sn_ok (ful_told h (pre_ent hA)).1).2.2.2.1
    rw [preE_len] at hn
    exact ⟨hb, by have := h9.1; omega, by omega, f1, f2, f3, f4, hn⟩
  obtain ⟨G, hG⟩ : ∃ x, fulG t m (preE A n) = x := ⟨_, rfl⟩
  obtain ⟨FE, hFE⟩ : ∃ x, fulE t m (preE A n) = x := ⟨_, rfl⟩
  obtain ⟨L, hL⟩ : ∃ x, fulL t m (preE A n) = x := ⟨_, rfl⟩
  rw [hG, hFE, hL] at FU
  rw [hG, hL] at WR
  rw [hG, hFE, hL] at KP
  clear hG hFE hL OKL OKG
  obtain ⟨WE, hWE⟩ : ∃ x, wrtE G (atR L) L.length = x := ⟨_, rfl⟩
  obtain ⟨l, hl⟩ : ∃ x, wrtB G (atR L) L.length = x := ⟨_, rfl⟩
  rw [hWE, hl] at WR
  rw [hWE, hl] at KP
  clear hWE hl
  obtain ⟨g0, g1, g2⟩ := G
  obtain ⟨ax, cx, rfl, -⟩ := hv
  go_enter Tryz.func8, Tryz.ntmps8
  go_upto_region 1 with fail
  generalize hW : w.alloc (.cells #[.int .i64 t, .int .i64 m, .slice ax n cx] 45) = W
  obtain ⟨X0, b0, -⟩ := boxed hW
  have HX0 : Hid (Below w.heap.size w W) := b0
  obtain ⟨H, hH⟩ : ∃ H, w.heap.size = H := ⟨_, rfl⟩
  have HH : Hid (w.heap.size = H) := hH
  rw [hH] at X0 b0
  rw [hH]
  clear hW hH
  have x0 := X0.cell 0 _ rfl
  have x1 := X0.cell 1 _ rfl
  have x2 := X0.cell 2 _ rfl
  have lx := X0.lt
  go_wp2_with fail
  refine (FU.out W HX0.out).mono ?_; rintro e w1 ⟨gu, rfl, o1, b1⟩
  have X1 := X0.below b1 X0.lt
  have B1 := bup b0 (Nat.le_of_eq HH.out.symm) b1
  obtain ⟨ga, gc, eg⟩ := o1.form
  obtain ⟨gn, hgn⟩ : ∃ x, L.length = x := ⟨_, rfl⟩
  rw [hgn] at eg
  have HGN : Hid (L.length = gn) := hgn
  subst eg
  have RG1 : Hid (RdR w1 (.slice ga gn gc) L.length (atR L)) := o1.atR
  clear X0 b0 x0 x1 x2 lx b1 o1 hgn HX0 FU
  go_upto_region 2 with fail
  generalize hV : w1.alloc (.cells #[.int .i64 g0, .int .i64 g1, .int .i64 g2, .slice ga gn gc] 57) = W2
  obtain ⟨G2, bn, -⟩ := boxed hV
  have X2 := X1.below bn X1.lt
  have B2 := bup B1 (Nat.le_of_eq HH.out.symm) bn
  have RG2 : Hid (RdR W2 (.slice ga gn gc) L.length (atR L)) := RG1.out.below bn
  obtain ⟨PG, hPG⟩ : ∃ x, w1.heap.size = x := ⟨_, rfl⟩
  rw [hPG] at G2
  rw [hPG]
  clear hV hPG bn X1 B1 RG1
  have y0 := G2.cell 0 _ rfl
  have y1 := G2.cell 1 _ rfl
  have y2 := G2.cell 2 _ rfl
  have y3 := G2.cell 3 _ rfl
  have ly := G2.lt
  go_wp2_with fail
  refine (WR.out W2 _ RG2.out).mono ?_; rintro e w3 ⟨bv, rfl, o3, b3⟩
  have X3 := X2.below b3 X2.lt
  have B3 := bup B2 (Nat.le_of_eq HH.out.symm) b3
  have hX2 := X2.lt
  have O3 : Hid (Own w3 (H + 1) bv l) := Own.mono o3 (by omega)
  clear X2 B2 RG2 y0 y1 y2 y3 ly G2 o3 b3 WR hX2
  go_wp2_with fail
  refine (st_new w3 2 (by omega) (by omega)).mono ?_; rintro e w4 ⟨rfl, S4, b4⟩
  have X4 := X3.below b4 X3.lt
  have B4 := bup B3 (Nat.le_of_eq HH.out.symm) b4
  have O4 : Hid (Own w4 (H + 1) bv l) := O3.out.below b4
  have hlow : Hid (∀ g, bv.ownBlock = some g → g < w3.heap.size) := fun g hg => (O3.out.lt g hg).2
  obtain ⟨C, hC⟩ : ∃ C, w3.heap.size = C := ⟨_, rfl⟩
  have hHC : H < C := by rw [← hC]; exact X3.lt
  rw [hC] at S4 hlow
  rw [hC]
  have SS4 : Hid (StoV w4 C (C + 1) C (.slice none 0 0) (emptyR 2) (emptyS 2)) := S4
  clear S4 hC b4 B3 X3 O3
  by_cases hz : FE = 0 ∧ WE = 0
  · obtain ⟨hz1, hz2⟩ := hz
    obtain ⟨k1, k2, k3, k4, k5, k6, k7, k8⟩ := KP.out hz1 hz2 l rfl
    subst hz1 hz2
    have KB : Hid (Bytes l) := k1
    have KE : Hid (tkE (emptyS 2) l = 0 ∧ tkT (emptyS 2) l = t) := ⟨k4, k5⟩
    have KL : Hid ((accS (emptyS 2) l).L = [⟨t, m, preE A n⟩]) := k6
    obtain ⟨nb, hnb⟩ : ∃ x, l.length = x := ⟨_, rfl⟩
    have HNB : Hid (l.length = nb) := hnb
    rw [hnb] at k2 k3
    obtain ⟨gb, cb, rfl, gb0, gb1, gb2, gb3, -⟩ := O4.out.form (by intro e; rw [e] at hnb; simp at hnb; omega)
    rw [hnb] at gb2 O4 ⊢
    have hgbC : gb < C := hlow.out gb rfl
    have hnb0 : ((nb : Int) == 0) = false := by simp; omega
    have hnb1 : ¬ ((nb : Int) = 0) := by omega
    clear KP k1 k4 k5 k6 k7 hnb gb0 gb1 gb3 hlow
    go_wp2_with fail
    refine (st_alive w4).mono ?_; rintro e w5 ⟨rfl, b5⟩
    have X5 := X4.below b5 X4.lt
    have B5 := bup B4 (Nat.le_of_eq HH.out.symm) b5
    have O5 : Hid (Own w5 (H + 1) (.slice (some ⟨gb, 0, none⟩) nb cb) l) := O4.out.below b5
    have SS5 : Hid (StoV w5 C (C + 1) C (.slice none 0 0) (emptyR 2) (emptyS 2)) := SS4.out.below b5
    clear X4 B4 O4 SS4 b5
    have hHg : H + 1 ≤ gb := O5.out.own_ge gb rfl
    obtain ⟨q1, hq1⟩ : ∃ q, accS (emptyS 2) l = q := ⟨_, rfl⟩
    have AC : Hid (Calls Tryz.prog 15 #[.pointer (some ⟨C + 1, 0, none⟩), .slice (some ⟨gb, 0, none⟩) nb cb] w5 fun e w' => e = .returned (.tuple #[.int .i64 t, .int .i64 0]) ∧ ∃ v' rs', StoV w' C (C + 1) C v' rs' q1 ∧ Chs C (C + 1) C (.slice none 0 0) v' w5 w') := by
      have h := st_accept w5 C (C + 1) C _ _ _ SS5.out (by simp [emptyS]) _ l KB.out (by rw [HNB.out]; omega) O5.out.rd
      rw [KE.out.1, KE.out.2, hq1] at h
      exact h
    have KQ : Hid (isS q1.L t = true ∧ getS q1.L t = ⟨t, m, preE A n⟩ ∧ atS q1.L 0 = ⟨t, m, preE A n⟩ ∧ 0 < q1.L.length ∧ n ≤ 64) := by
      rw [← hq1, KL.out]
      have h1 : isS [(⟨t, m, preE A n⟩ : Sn)] t = true := by simp [isS, untS, atS]
      exact ⟨h1, by unfold getS; rw [if_pos h1]; simp [untS, atS], by simp [atS], by simp, k8⟩
    clear hq1
    clear KE KL k8
    have ht : (t != t) = false := by simp
    have x0 := X5.cell 0 _ rfl
    have lx := X5.lt
    go_wp2_with fail
    clear x0 lx SS5
    refine AC.out.mono ?_; rintro e w6 ⟨rfl, v1, rs1, s6, ch6⟩
    have X6 := X5.below ch6.below hHC
    have B6 : Below H w w6 := B5.trans (ch6.below.mono (by omega))
    have O6 : Hid (Own w6 (H + 1) (.slice (some ⟨gb, 0, none⟩) nb cb) l) := (Own.chs O5.out ch6 (fun g hg => by have hg' : some gb = some g := hg; injection hg' with hg'; subst hg'; exact ⟨by omega, by omega, by intro e; cases e⟩)).1
    have S6 : Hid (StoV w6 C (C + 1) C v1 rs1 q1) := s6
    clear X5 B5 O5 AC s6 ch6
    have x0 := X6.cell 0 _ rfl
    have lx := X6.lt
    go_wp2_with fail
    clear x0 lx
    go_loopw [75] (fun i wr => ∃ k : Nat, k ≤ nb ∧ i = .int .i64 k ∧ (∃ l', l'.length = nb ∧ Bytes l' ∧ Own wr (H + 1) (.slice (some ⟨gb, 0, none⟩) nb cb) l') ∧ w6.grownBy wr (some gb)) (fun i _ => nb - (intOf i).toNat)
    case atStart => exact ⟨0, by omega, rfl, ⟨l, HNB.out, KB.out, O6.out⟩, grown_refl _ _⟩
    case round =>
      obtain ⟨k, hk, rfl, ⟨l', hl', bl', o'⟩, g'⟩ := hrel
      by_cases hlt : k < nb
      · have OW : Hid (Own wr (H + 1) (.slice (some ⟨gb, 0, none⟩) nb cb) l') := o'
        have HL' : Hid (l'.length = nb) := hl'
        have BL' : Hid (Bytes l') := bl'
        have c1 := o'.cell k (by omega)
        have c2 := o'.free k
        have hcb := bl'.at k
        obtain ⟨c, hcc⟩ : ∃ c, l'.getD k 0 = c := ⟨_, rfl⟩
        rw [hcc] at c1 hcb
        have hx := u8_xor c 255 (by omega) (by omega) (by omega) (by omega)
        have hzb := turn_byte c hcb 255 (by omega)
        have e255 : (255 : Int).toNat = 255 := rfl
        rw [e255] at hx
        obtain ⟨z, hze⟩ : ∃ z, ((c.toNat ^^^ 255 : Nat) : Int) = z := ⟨_, rfl⟩
        rw [hze] at hx hzb
        clear hze hcc o' hl' bl' e255 hcb X6 B6 O6 S6
        go_wp2_with fail
        go_roundw
        case rel => exact ⟨k + 1, by omega, by go_num, ⟨l'.set k z, by rw [List.length_set]; exact HL'.out, BL'.out.set k hzb, OW.out.store k z⟩, grown_trans g' (grownBy_setCellAny _ _ _ _)⟩
        case measure => simp [intOf]; omega
      · obtain rfl : k = nb := by omega
        clear o' bl' hl'
        have b7 : Below (H + 1) w6 wr := ⟨g'.os, g'.tape, g'.output, g'.size, fun q hq => g'.block q (by have := X6.lt; omega) (by intro e; injection e with e; omega)⟩
        have X7 := X6.below b7 (Nat.lt_succ_self H)
        have B7 : Below H w wr := B6.trans (b7.mono (by omega))
        have S7 : Hid (StoV wr C (C + 1) C v1 rs1 q1) := S6.out.by_ g' hgbC
        obtain ⟨w7, hw7⟩ : ∃ x, x = wr := ⟨_, rfl⟩
        have GT : Hid (∀ w', Below w7.heap.size w7 w' → Calls Tryz.prog 21 #[.pointer (some ⟨C + 1, 0, none⟩), .int .i64 t] w' fun e w'' => ∃ u, e = .returned (.tuple #[snV t m u, .bool true]) ∧ OwnE w'' w'.heap.size u (preE A n) ∧ Below w'.heap.size w' w'') := fun w' hb' => by
          have h := st_get w' C (C + 1) C v1 rs1 q1 ((by rw [← hw7] at S7; exact S7.out : StoV w7 C (C + 1) C v1 rs1 q1).below hb') t (by rw [KQ.out.2.1]; simp only [preE_len]; have := KQ.out.2.2.2.2; omega)
          rw [KQ.out.2.1, KQ.out.1, pre_atE] at h
          exact h
        have AT : Hid (∀ w', Below w7.heap.size w7 w' → Calls Tryz.prog 20 #[.pointer (some ⟨C + 1, 0, none⟩), .int .i64 0] w' fun e w'' => ∃ u, e = .returned (.tuple #[snV t m u, .int .i64 0]) ∧ OwnE w'' w'.heap.size u (preE A n) ∧ Below w'.heap.size w' w'') := fun w' hb' => by
          have h := st_at w' C (C + 1) C v1 rs1 q1 ((by rw [← hw7] at S7; exact S7.out : StoV w7 C (C + 1) C v1 rs1 q1).below hb') 0 KQ.out.2.2.2.1 (by rw [KQ.out.2.2.1]; simp only [preE_len]; have := KQ.out.2.2.2.2; omega)
          rw [KQ.out.2.2.1, pre_atE] at h
          exact h
        have RX : Hid (RdE w7 (.slice ax n cx) n A) := HX.out.below (by rw [HH.out, hw7]; exact B7)
        subst hw7
        have hn64 := KQ.out.2.2.2.2
        clear X6 B6 O6 S6 S7 b7 KQ g' KB HNB gb2 hnb0 hnb1 k2 k3 hk hlt
        have x0 := X7.cell 0 _ rfl
        have lx := X7.lt
        go_wp2_with fail
        refine (GT.out _ (Below.refl _ _)).mono ?_; rintro e w8 ⟨uy, rfl, oy, b8⟩
        clear x0 lx
        obtain ⟨ya, yc, ey⟩ := oy.form
        rw [preE_len] at ey
        subst ey
        go_upto_region 15 with fail
        generalize hV : w8.alloc (.cells #[.int .i64 t, .int .i64 m, .slice ya n yc] 45) = W9
        obtain ⟨Y9, bn, -⟩ := boxed hV
        obtain ⟨Y, hY⟩ : ∃ x, w8.heap.size = x := ⟨_, rfl⟩
        have X9 := (X7.below b8 X7.lt).below bn (Nat.lt_of_lt_of_le X7.lt b8.size)
        have D9 : Below w7.heap.size w7 W9 := b8.trans (bn.mono b8.size)
        have OY9 : Hid (OwnE W9 w7.heap.size (.slice ya n yc) (preE A n)) := oy.below bn
        have yl : ∀ g, (Value.slice ya n yc).ownBlock = some g → w7.heap.size ≤ g ∧ g < Y := fun g hg => by rw [← hY]; exact oy.lt g hg
        have hrY : w7.heap.size ≤ Y := by rw [← hY]; exact b8.size
        rw [hY] at Y9
        rw [hY]
        have hHr := X7.lt
        clear hV hY b8 bn oy X7
        go_wp2_with fail
        refine (AT.out _ D9).mono ?_; rintro e w10 ⟨uz, rfl, oz, b10⟩
        obtain ⟨za, zc, ez⟩ := oz.form
        rw [preE_len] at ez
        subst ez
        go_upto_region 16 with fail
        generalize hV : w10.alloc (.cells #[.int .i64 t, .int .i64 m, .slice za n zc] 45) = W11
        obtain ⟨Z11, bn, -⟩ := boxed hV
        obtain ⟨Z, hZ⟩ : ∃ x, w10.heap.size = x := ⟨_, rfl⟩
        have hYY := Y9.lt
        have hYZ : W9.heap.size ≤ Z := by rw [← hZ]; exact b10.size
        have b11 : Below W9.heap.size W9 W11 := b10.trans (bn.mono b10.size)
        have X11 := X9.below b11 X9.lt
        have Y11 := Y9.below b11 Y9.lt
        have D11 : Below w7.heap.size w7 W11 := D9.trans (b11.mono (by omega))
        have OY11 : Hid (OwnE W11 w7.heap.size (.slice ya n yc) (preE A n)) := OY9.out.below b11
        have OZ11 : Hid (OwnE W11 (Y + 1) (.slice za n zc) (preE A n)) := OwnE.mono (oz.below bn) (by omega)
        have zl : ∀ g, (Value.slice za n zc).ownBlock = some g → Y < g ∧ g < Z := fun g hg => by have := oz.lt g hg; rw [← hZ]; omega
        have hYZ' : Y < Z := by omega
        rw [hZ] at Z11
        rw [hZ]
        clear hV hZ b10 bn b11 oz X9 Y9 D9 OY9 AT hYY hYZ
        have x0 := X11.cell 0 _ rfl
        have x1 := X11.cell 1 _ rfl
        have x2 := X11.cell 2 _ rfl
        have lx := X11.lt
        have y0 := Y11.cell 0 _ rfl
        have y1 := Y11.cell 1 _ rfl
        have y2 := Y11.cell 2 _ rfl
        have ly := Y11.lt
        have z0 := Z11.cell 0 _ rfl
        have z1 := Z11.cell 1 _ rfl
        have z2 := Z11.cell 2 _ rfl
        have lz := Z11.lt
        go_wp2_with fail
        refine (sn_same W11 t m _ _ n A (RX.out.below D11) (rdE_pre OY11.out)).mono ?_; rintro e w12 ⟨rfl, b12⟩
        have X12 := X11.below b12 X11.lt
        have Y12 := Y11.below b12 Y11.lt
        have Z12 := Z11.below b12 Z11.lt
        have D12 := D11.trans (b12.mono D11.size)
        have OY12 : Hid (OwnE w12 w7.heap.size (.slice ya n yc) (preE A n)) := OY11.out.below b12
        have OZ12 : Hid (OwnE w12 (Y + 1) (.slice za n zc) (preE A n)) := OZ11.out.below b12
        clear x0 x1 x2 lx y0 y1 y2 ly z0 z1 z2 lz X11 Y11 Z11 D11 OY11 OZ11 b12
        have x0 := X12.cell 0 _ rfl
        have x1 := X12.cell 1 _ rfl
        have x2 := X12.cell 2 _ rfl
        have y0 := Y12.cell 0 _ rfl
        have y1 := Y12.cell 1 _ rfl
        have y2 := Y12.cell 2 _ rfl
        have z0 := Z12.cell 0 _ rfl
        have z1 := Z12.cell 1 _ rfl
        have z2 := Z12.cell 2 _ rfl
        have lx := X12.lt
        have ly := Y12.lt
        have lz := Z12.lt
        go_wp2_with fail
        refine (sn_same w12 t m _ _ n A (RX.out.below D12) (rdE_pre OZ12.out)).mono ?_; rintro e w13 ⟨rfl, b13⟩
        have X13 := X12.below b13 X12.lt
        have Y13 := Y12.below b13 Y12.lt
        have Z13 := Z12.below b13 Z12.lt
        have D13 := D12.trans (b13.mono D12.size)
        have OY13 : Hid (OwnE w13 w7.heap.size (.slice ya n yc) (preE A n)) := OY12.out.below b13
        have OZ13 : Hid (OwnE w13 (Y + 1) (.slice za n zc) (preE A n)) := OZ12.out.below b13
        clear x0 x1 x2 lx y0 y1 y2 ly z0 z1 z2 lz X12 Y12 Z12 D12 OY12 OZ12 b13
        have x0 := X13.cell 0 _ rfl
        have x1 := X13.cell 1 _ rfl
        have x2 := X13.cell 2 _ rfl
        have y0 := Y13.cell 0 _ rfl
        have y1 := Y13.cell 1 _ rfl
        have y2 := Y13.cell 2 _ rfl
        have z0 := Z13.cell 0 _ rfl
        have z1 := Z13.cell 1 _ rfl
        have z2 := Z13.cell 2 _ rfl
        have lx := X13.lt
        have ly := Y13.lt
        have lz := Z13.lt
        go_wp2_with fail
        obtain ⟨yg, hyg, cy, -⟩ := own_cellW OY13.out (preE_len A n)
        obtain ⟨zg, hzg, -, cz⟩ := own_cellW OZ13.out (preE_len A n)
        have hyg' : 0 < n → ya = some ⟨yg, 0, none⟩ ∧ w7.heap.size ≤ yg ∧ yg < Y := fun h => ⟨(hyg h).1, (yl yg (by rw [(hyg h).1]; rfl)).1, (yl yg (by rw [(hyg h).1]; rfl)).2⟩
        have hzg' : 0 < n → za = some ⟨zg, 0, none⟩ ∧ Y < zg ∧ zg < Z := fun h => ⟨(hzg h).1, (zl zg (by rw [(hzg h).1]; rfl)).1, (zl zg (by rw [(hzg h).1]; rfl)).2⟩
        clear x0 x1 x2 lx y0 y1 y2 ly z0 z1 z2 lz hyg hzg OY13 OZ13 yl zl
        go_loopw [118] (fun i wx => ∃ j : Nat, j ≤ n ∧ i = .int .i64 j ∧ CellW wx yg 7 n (fun x => ∃ a, x = .int .u16 a) ∧ CellW wx zg 0 n (fun _ => True) ∧ Blk wx H [.int .i64 t, .int .i64 m, .slice ax n cx] ∧ Blk wx Y [.int .i64 t, .int .i64 m, .slice ya n yc] ∧ Blk wx Z [.int .i64 t, .int .i64 m, .slice za n zc] ∧ Below w7.heap.size w7 wx) (fun i _ => n - (intOf i).toNat)
        case atStart => exact ⟨0, by omega, rfl, cy, cz, X13, Y13, Z13, D13⟩
        case round =>
          clear cy cz X13 Y13 Z13 D13
          obtain ⟨j, hj, rfl, cy, cz, X14, Y14, Z14, D14⟩ := hrel
          by_cases hlt : j < n
          · have CY : Hid (CellW wr yg 7 n (fun x => ∃ a, x = .int .u16 a)) := cy
            have CZ : Hid (CellW wr zg 0 n (fun _ => True)) := cz
            obtain ⟨hya, hy1, hy2⟩ := hyg' (by omega)
            obtain ⟨hza, hz1, hz2⟩ := hzg' (by omega)
            subst hya hza
            obtain ⟨xx, ⟨aa, rfl⟩, c1, c2⟩ := cy j hlt
            obtain ⟨zz, -, c3, c4⟩ := cz j hlt
            simp only [Nat.add_zero] at c3 c4
            have y2 := Y14.cell 2 _ rfl
            have ly := Y14.lt
            have z2 := Z14.cell 2 _ rfl
            have lz := Z14.lt
            clear cy cz hyg' hzg'
            go_wp2_with fail
            go_roundw
            case rel => exact ⟨j + 1, by omega, by go_num, (CY.out.set ⟨_, rfl⟩).other (show zg ≠ yg by omega) _, (CZ.out.other (show yg ≠ zg by omega) _).set (i := j) trivial, (X14.other (show yg ≠ H by omega) _).other (show zg ≠ H by omega) _, (Y14.other (show yg ≠ Y by omega) _).other (show zg ≠ Y by omega) _, (Z14.other (show yg ≠ Z by omega) _).other (show zg ≠ Z by omega) _, (D14.setCell (by show _ ≤ yg; omega) _).setCell (by show _ ≤ zg; omega) _⟩
            case measure => simp [intOf]; omega
          · obtain rfl : j = n := by omega
            clear cy cz hyg' hzg' Y14 Z14 hn64
            have x0 := X14.cell 0 _ rfl
            have lx := X14.lt
            go_wp2_with fail
            refine (GT.out wr D14).mono ?_; rintro e w15 ⟨uu, rfl, ou, b15⟩
            obtain ⟨ua, uc, eu⟩ := ou.form
            rw [preE_len] at eu
            subst eu
            go_upto_region 25 with fail
            generalize hV : w15.alloc (.cells #[.int .i64 t, .int .i64 m, .slice ua j uc] 45) = W16
            obtain ⟨U16_, bn, -⟩ := boxed hV
            have b16 : Below wr.heap.size wr W16 := b15.trans (bn.mono b15.size)
            have X16 := X14.below b16 X14.lt
            have D16 := D14.trans (b16.mono D14.size)
            have OU : Hid (OwnE W16 wr.heap.size (.slice ua j uc) (preE A j)) := ou.below bn
            obtain ⟨U, hU⟩ : ∃ x, w15.heap.size = x := ⟨_, rfl⟩
            rw [hU] at U16_
            rw [hU]
            clear hV hU b15 bn b16 ou X14 D14 x0 lx GT
            have x0 := X16.cell 0 _ rfl
            have x1 := X16.cell 1 _ rfl
            have x2 := X16.cell 2 _ rfl
            have lx := X16.lt
            have u0 := U16_.cell 0 _ rfl
            have u1 := U16_.cell 1 _ rfl
            have u2 := U16_.cell 2 _ rfl
            have lu := U16_.lt
            go_wp2_with fail
            refine (sn_same W16 t m _ _ j A (RX.out.below D16) (rdE_pre OU.out)).mono ?_; rintro e w17 ⟨rfl, b17⟩
            go_wp2_with fail
            go_ret
            exact ⟨rfl, by rw [HH.out]; exact bup (B7.trans (D16.mono (by omega))) (Nat.le_of_eq HH.out.symm) b17⟩
  · by_cases h1 : FE = 0
    · have h2 : ¬ WE = 0 := fun h => hz ⟨h1, h⟩
      have h3 : (WE != 0) = true := by simpa using h2
      subst h1
      clear KP hz
      go_wp2_with fail
      refine (st_alive w4).mono ?_; rintro e w5 ⟨rfl, b5⟩
      go_wp2_with fail
      go_ret
      exact ⟨rfl, by rw [HH.out]; exact bup B4 (Nat.le_of_eq HH.out.symm) b5⟩
    · have h3 : (FE != 0) = true := by simpa using h1
      clear KP hz
      go_wp2_with fail
      refine (st_alive w4).mono ?_; rintro e w5 ⟨rfl, b5⟩
      go_wp2_with fail
      go_ret
      exact ⟨rfl, by rw [HH.out]; exact bup B4 (Nat.le_of_eq HH.out.symm) b5⟩

set_option maxRecDepth 100000 in
theorem lifted (os : Os) (started : os.Started) (H : Type) (enc : TypeId × Value → H) :
    ReturnsInHanded {} Tryz.checked os 8 .any (Rows.storeOwnSpec.pre6 enc Tryz.prog Tryz.f8 Rows.storeOwnRow.domain false) (Rows.storeOwnSpec.post enc Tryz.prog Tryz.f8 false true false false) := by
  refine returnsInHanded_of_change (C := Tryz.checked) own started (by kernel_rfl) Tryz.func8
    (ChangeSpec.witness6 (enc := enc) (C := Tryz.checked) false ⟨#[], #[.agg #[.int .i64 0, .int .i64 0, .slice none 0 0], .int .u16 0], []⟩ 8 (by kernel_rfl) (by kernel_rfl) (by kernel_rfl) (by kernel_rfl)) ?_
  intro W base args ds gs before hval0 hW hcnd _
  have hval : ∀ (j : Nat) t v, Tryz.f8.params[j]? = some t → args[j]? = some v → Value.okWide Tryz.prog W .any base t v := hval0
  have hW' := hW
  obtain ⟨p, q, hA0, hV, rfl, hfz, hnd⟩ := hW
  have hA : DataW.TrodAll enc Tryz.prog W 0 (fun _ => true) true Tryz.f8.params.toList args.toList ds p := hA0
  rw [Tryz.params8] at hA hval
  obtain ⟨v0, vs0, d0, ds0, p0, q0, hargs, rfl, rfl, h0, r0⟩ := trodAll_cons hA
  obtain ⟨v1, vs1, d1, ds1, p1, q1, rfl, rfl, rfl, h1, r1⟩ := trodAll_cons r0
  obtain ⟨rfl, rfl, rfl⟩ := trodAll_nil r1
  obtain rfl : args = #[v0, v1] := by cases args; simp_all
  obtain ⟨rfl, rfl⟩ := trodVars_none hV
  have hlt := hW'.lt
  have k0 := h0
  obtain ⟨t0, m0, u0, n0, A0, e0, st0, sm0, b0, rd0⟩ := open_snap (hval 0 45 v0 rfl rfl) h0
  subst e0
  have k1 := h1
  obtain ⟨a1, rfl, rfl, rfl, w1⟩ := open_int Tryz.underlying68 (hval 1 68 v1 rfl rfl) h1
  clear hA0 hval0
  refine (walk W t0 m0 u0 n0 A0 st0 sm0 b0 rd0 a1 w1).mono fun e W' ⟨he, hg⟩ => ?_
  subst he
  exact ⟨_, rfl, post_of_below hW' (fun _ _ _ => (trodAll_cons_mk (shut_bool Tryz.underlying4 _) trodAll_mk0)) (trodAll_cons_mk (Below.trod laidOut (by kernel_rfl) (of_decide_eq_true (by kernel_rfl)) k0 hg (fun x hx => by first | exact absurd hx (by simp) | exact hlt x (by simp [hx]))) (trodAll_cons_mk (Below.trod laidOut (by kernel_rfl) (of_decide_eq_true (by kernel_rfl)) k1 hg (fun x hx => by first | exact absurd hx (by simp) | exact hlt x (by simp [hx]))) trodAll_mk0)) rfl hg⟩

theorem over : Rows.storeOwnRow.holds Tryz.pinned (OpenSpec.ofChange Rows.storeOwnSpec) :=
  OpenClaim.holds_of_wide 8 Tryz.f8 rfl rfl rfl rfl rfl rfl rfl ⟨rfl, rfl, rfl, rfl, rfl⟩ rfl rfl rfl rfl rfl (by kernel_rfl) Tryz.func8 (by kernel_rfl)
    (of_decide_eq_true (by kernel_rfl)) (by unfold Func.isWrapper; first | (rw [if_pos (by decide +kernel)]; kernel_rfl) | (rw [if_neg (by decide +kernel)]; exact ⟨rfl, rfl⟩))
    (fun os started H enc _ => lifted os started H enc)
end StoreOwnL

theorem storeOwn_proved : Rows.StoreOwnSaid := StoreOwnL.over
#print axioms storeOwn_proved
end Go.Proofs.YtggninahglfcpaaGreat
