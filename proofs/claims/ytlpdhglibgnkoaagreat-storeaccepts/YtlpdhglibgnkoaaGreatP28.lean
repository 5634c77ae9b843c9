/-
  Texts Sg7, St1 in one.
-/
import Derived.Deep.RegionHeld3
import Derived.Deep.LoopGhost
import Derived.Deep.DeepCutAuto
import Derived.Deep.CutBlock
import Derived.Deep.CutRange
import Derived.Test.YtlpdhglibgnkoaaGreatP27
namespace Go.Proofs.YtlpdhglibgnkoaaGreat
open Go.RowKit
set_option linter.unusedVariables false
set_option maxRecDepth 20000
theorem lay_dup {s : Rs} {k : Int} {x : Value} (h : isAt s.L k = true) : layA s k = (0, false, 12) ∧ layS s k x = s := by
  unfold layA layS; rw [if_pos h, if_pos h]; exact ⟨rfl, rfl⟩
theorem lay_stale {s : Rs} {k : Int} {x : Value} (h : isAt s.L k = false) (h' : untl s.L k = 0 ∧ s.L.length = s.M) : layA s k = (0, false, 13) ∧ layS s k x = s := by
  have h0 : ¬ isAt s.L k = true := by rw [h]; simp
  unfold layA layS; rw [if_neg h0, if_neg h0, if_pos h', if_pos h']; exact ⟨rfl, rfl⟩
theorem lay_fit {s : Rs} {k : Int} {x : Value} (h : isAt s.L k = false) (h' : s.L.length < s.M) : layA s k = (0, false, 0) ∧ layS s k x = { s with L := laid s.L k x } := by
  have h0 : ¬ isAt s.L k = true := by rw [h]; simp
  have h1 : ¬ (untl s.L k = 0 ∧ s.L.length = s.M) := by omega
  unfold layA layS; rw [if_neg h0, if_neg h0, if_neg h1, if_neg h1, if_pos h', if_pos h']; exact ⟨rfl, rfl⟩
theorem lay_full {s : Rs} {k : Int} {x : Value} (h : isAt s.L k = false) (h1 : ¬ (untl s.L k = 0 ∧ s.L.length = s.M)) (h' : ¬ s.L.length < s.M) : layA s k = (keyAt (laid s.L k x) 0, true, 0) ∧ layS s k x = { s with L := (laid s.L k x).tail, F := keyAt (laid s.L k x) 0, G := true } := by
  have h0 : ¬ isAt s.L k = true := by rw [h]; simp
  unfold layA layS; rw [if_neg h0, if_neg h0, if_neg h1, if_neg h1, if_neg h', if_neg h']
  exact ⟨by rw [keyAt_laid s.L k noPr.2 x], rfl⟩
set_option maxHeartbeats 4000000 in
/-- slices.Insert of one pair, wherever. -/
theorem ins_anyP (w : World) (B : Nat) (hB : B ≤ w.heap.size) (v : Value) (L : List Pr) (hown : OwnP 90 w B v L) (hones : Ones L) (hl : L.length ≤ 1000) (i : Nat) (hi : i ≤ L.length) (p : Pr) (hx : Trio p.2) (vb : Nat)
    (hvb : w.heap[vb]? = some (.cells #[.int .i64 p.1, t0 p.2, t1 p.2, t2 p.2] 90 (0, 0))) (hne : some vb ≠ v.ownBlock) :
    Calls Tryz.prog 53 #[v, .int .i64 (i : Nat), .slice (some ⟨vb, 0, none⟩) 1 1] w fun e w' => ∃ v', e = .returned v' ∧ OwnP 90 w' B v' (L.take i ++ p :: L.drop i) ∧ Grow B v w v' w' := by
  rcases Nat.lt_or_ge i L.length with h | h
  · have hL : L ≠ [] := by intro h'; rw [h'] at h; simp at h
    obtain ⟨g, cap, cur, rfl, hBg, hg, hc, hm, hcs, htk⟩ := hown.some_ hL
    rcases Nat.lt_or_ge cap (L.length + 1) with hr | hr
    · exact ins_growP w B hB L hones g cap cur hg hcs htk hl i h hc hr p hx vb hvb
    · refine (ins_roomP w B L hones g cap cur hg hBg hcs htk hl i h hr hm p hx vb hvb (fun e => hne (by rw [e]; rfl))).mono ?_
      rintro e w' ⟨rfl, o1, g1⟩
      exact ⟨_, rfl, o1, (Below.refl B w).grown g1 hB (fun k hk => by injection hk with hk; omega), g1, Or.inl rfl⟩
  · obtain rfl : i = L.length := by omega
    refine (ins_endP w B hB v L hown hl p hx vb hvb).mono ?_
    rintro e w' ⟨v', rfl, o1, g1⟩
    exact ⟨v', rfl, by rw [List.take_of_length_le (Nat.le_refl _), List.drop_of_length_le (Nat.le_refl _)]; exact o1, g1⟩
set_option maxHeartbeats 4000000 in
/-- drop. -/
theorem drop_anyP (w : World) (B R M : Nat) (F : Int) (G : Bool) (v : Value) (L : List Pr) (hb : Blk w R [.int .i64 (M : Nat), v, .int .i64 F, .bool G]) (hown : OwnP 90 w B v L) (hones : Ones L) (m : Nat) (hn : L.length = m + 1) (hl : L.length ≤ 1000)
    (hne : some R ≠ v.ownBlock) (hB : B ≤ R) :
    Calls Tryz.prog 54 #[.pointer (some ⟨R, 0, none⟩)] w fun e w' => e = .returned (.int .i64 (keyAt L 0)) ∧ ∃ v', Blk w' R [.int .i64 (M : Nat), v', .int .i64 (keyAt L 0), .bool true] ∧ OwnP 90 w' B v' L.tail ∧ some R ≠ v'.ownBlock ∧ Chg B R v v' w w' := by
  have hL : L ≠ [] := by intro h; rw [h] at hn; simp at hn
  obtain ⟨g, cap, cur, rfl, hBg, _, h1, h2, _, _⟩ := hown.some_ hL
  have k0 := hown.key rfl (i := 0) (by omega)
  rw [Nat.zero_mul] at k0
  obtain ⟨kk, hk⟩ : ∃ x, keyAt L 0 = x := ⟨_, rfl⟩
  rw [hk] at k0 ⊢
  have hgR : g ≠ R := fun e => hne (by rw [e]; rfl)
  have HO : Hid (OwnP 90 w B (.slice (some ⟨g, 0, none⟩) (m + 1) cap) L) := by rw [hn] at hown; exact hown
  have HN : Hid (L.length = m + 1) := hn
  rw [hn] at hb h1 hl
  rw [hn]
  have c1 := hb.cell 1 _ rfl
  have c2 := hb.cell 2 _ rfl
  have c3 := hb.cell 3 _ rfl
  have f2 := hb.froz 2
  have f3 := hb.froz 3
  have HB0 : Hid (Blk w R [.int .i64 (M : Nat), .slice (some ⟨g, 0, none⟩) (m + 1) cap, .int .i64 F, .bool G]) := hb
  have hlt := hb.lt
  clear hb hown hn hk hL
  go_enter Tryz.func54, Tryz.ntmps54
  go_upto_region 2 with fail
  obtain ⟨W1, hW1⟩ : ∃ W1, ((w.setCell ⟨R, 2, none⟩ (.int .i64 kk)).setCell ⟨R, 3, none⟩ (.bool true)) = W1 := ⟨_, rfl⟩
  have B1 : Blk W1 R [.int .i64 (M : Nat), .slice (some ⟨g, 0, none⟩) (m + 1) cap, .int .i64 kk, .bool true] := by
    rw [← hW1]; exact (HB0.out.set 2 _ (by simp)).set 3 _ (by simp)
  have g1 : Chg B R (.slice (some ⟨g, 0, none⟩) (m + 1) cap) (.slice (some ⟨g, 0, none⟩) (m + 1) cap) w W1 := by
    rw [← hW1]; exact (Chg.set hB).trans (Chg.set hB)
  have O1 : Hid (OwnP 90 W1 B (.slice (some ⟨g, 0, none⟩) (m + 1) cap) L) := by
    have e1 : w.grownBy W1 (some R) := by
      rw [← hW1]
      exact grown_trans (grown_set w R 2 _) (grown_set _ R 3 _)
    exact HO.out.kept e1 (Or.inr (fun e => hne e.symm))
  have G1 : Hid (Chg B R (.slice (some ⟨g, 0, none⟩) (m + 1) cap) (.slice (some ⟨g, 0, none⟩) (m + 1) cap) w W1) := g1
  rw [hW1]
  clear hW1 c1 c2 c3 f2 f3 HB0 HO k0 g1
  have c1 := B1.cell 1 _ rfl
  go_wp2_with fail
  refine (del_oneP W1 B L hones m HN.out g cap O1.out (by rw [HN.out]; exact hl)).mono ?_; rintro e w2 ⟨rfl, o2, g2⟩
  have cg2 : Hid (Chg B R (.slice (some ⟨g, 0, none⟩) (m + 1) cap) (.slice (some ⟨g, 0, none⟩) m cap) W1 w2) :=
    Chg.of_grown g2 rfl (Nat.le_trans hB (Nat.le_of_lt B1.lt)) (fun k hk => by
      have hk' : some g = some k := hk
      injection hk' with hk'; omega)
  have O2 : Hid (OwnP 90 w2 B (.slice (some ⟨g, 0, none⟩) m cap) L.tail) := o2
  have B2 := B1.grwn g2 (fun e => by injection e with e; exact hgR e.symm)
  clear c1 o2 g2 B1 O1
  have c1 := B2.cell 1 _ rfl
  have c2 := B2.cell 2 _ rfl
  have f1 := B2.froz 1
  obtain ⟨W3, hW3⟩ : ∃ W3, w2.setCell ⟨R, 1, none⟩ (.slice (some ⟨g, 0, none⟩) m cap) = W3 := ⟨_, rfl⟩
  have B3 : Blk W3 R [.int .i64 (M : Nat), .slice (some ⟨g, 0, none⟩) m cap, .int .i64 kk, .bool true] := by rw [← hW3]; exact B2.set 1 _ (by simp)
  have O3 : Hid (OwnP 90 W3 B (.slice (some ⟨g, 0, none⟩) m cap) L.tail) := by
    rw [← hW3]; exact O2.out.kept (grown_set w2 R 1 _) (Or.inr (fun e => hgR (by injection e)))
  have G3 : Hid (Chg B R (.slice (some ⟨g, 0, none⟩) (m + 1) cap) (.slice (some ⟨g, 0, none⟩) m cap) w W3) := by
    refine (G1.out.trans cg2.out).trans ?_
    rw [← hW3]; exact Chg.set hB
  clear B2 O2 G1 cg2
  have c3 := B3.cell 2 _ rfl
  go_wp2_with fail
  go_ret
  exact ⟨rfl, _, B3, O3.out, hne, G3.out⟩
set_option maxHeartbeats 4000000 in
/-- Get. -/
theorem get_anyP (w : World) (B R : Nat) (v : Value) (s : Rs) (h : RngV 90 w B R v s) (k : Int) :
    Calls Tryz.prog 24 #[.pointer (some ⟨R, 0, none⟩), .int .i64 k] w fun e w' => e = .returned (.tuple #[getX s.L k (.agg #[.int .i64 0, .int .i64 0, .slice none 0 0]), .bool (isAt s.L k)]) ∧ Below w.heap.size w w' := by
  have H0 : Hid (RngV 90 w B R v s) := h
  clear h
  go_enter Tryz.func24, Tryz.ntmps24
  go_upto_region 1 with fail
  generalize hW : w.alloc (.cells #[.int .i64 0, .int .i64 0, .slice none 0 0] 45) = W
  obtain ⟨Y0, b0, -⟩ := boxed hW
  have r0 := H0.out.below b0
  have hRw := H0.out.blk.lt
  obtain ⟨H, hH⟩ : ∃ H, w.heap.size = H := ⟨_, rfl⟩
  have HH : Hid (w.heap.size = H) := hH
  rw [hH] at Y0 b0 hRw
  rw [hH]
  clear hW hH H0
  have R0 : Hid (RngV 90 W B R v s) := r0
  clear r0
  go_wp2_with fail
  refine (until_anyP W B R v s R0.out k).mono ?_; rintro e w1 ⟨rfl, b1⟩
  have r1 := R0.out.below b1
  have Y1 := Y0.below b1 Y0.lt
  have B1 : Below H w w1 := bup b0 (Nat.le_of_eq HH.out.symm) b1
  clear R0 b0 b1 Y0
  rcases hu : untl s.L k with _ | j
  · have hat : isAt s.L k = false := by simp [isAt, hu]
    have HE : Hid (getX s.L k (.agg #[.int .i64 0, .int .i64 0, .slice none 0 0]) = .agg #[.int .i64 0, .int .i64 0, .slice none 0 0] ∧ isAt s.L k = false) := ⟨by unfold getX; rw [hat]; rfl, hat⟩
    clear r1 hu hat
    have d0 := Y1.cell 0 _ rfl
    have f0 := Y1.froz 0
    have d1 := Y1.cell 1 _ rfl
    have f1 := Y1.froz 1
    have d2 := Y1.cell 2 _ rfl
    have f2 := Y1.froz 2
    have lr := Y1.lt
    go_upto_region 4 with fail
    generalize hV : w1.alloc (.cells #[.int .i64 0, .int .i64 0, .slice none 0 0] 45) = W2
    obtain ⟨X2, bn, -⟩ := boxed hV
    have Y2 := Y1.below bn Y1.lt
    have B2 := bup B1 (Nat.le_of_eq HH.out.symm) bn
    obtain ⟨V, hV2⟩ : ∃ V, w1.heap.size = V := ⟨_, rfl⟩
    rw [hV2] at X2 ⊢
    clear hV hV2 bn d0 f0 d1 f1 d2 f2 lr
    have d0 := Y2.cell 0 _ rfl
    have f0 := Y2.froz 0
    have d1 := Y2.cell 1 _ rfl
    have f1 := Y2.froz 1
    have d2 := Y2.cell 2 _ rfl
    have f2 := Y2.froz 2
    have lr := Y2.lt
    have v0 := X2.cell 0 _ rfl
    have v1 := X2.cell 1 _ rfl
    have v2 := X2.cell 2 _ rfl
    have lv := X2.lt
    go_wp2_with fail
    have RB := blk_three (x0 := .int .i64 0) (x1 := .int .i64 0) (x2 := .slice none 0 0) Y2
    have LB := below_three (x0 := .int .i64 0) (x1 := .int .i64 0) (x2 := .slice none 0 0) B2 (show H ≤ H by omega)
    generalize ((W2.setCell ⟨H, 0, none⟩ (.int .i64 0)).setCell ⟨H, 1, none⟩ (.int .i64 0)).setCell ⟨H, 2, none⟩ (.slice none 0 0) = W9 at RB LB ⊢
    have h0 := RB.cell 0 _ rfl
    have h1 := RB.cell 1 _ rfl
    have h2 := RB.cell 2 _ rfl
    refine bodyPost_ret (v := .tuple #[.agg #[.int .i64 0, .int .i64 0, .slice none 0 0], .bool false]) (by simp [results, Tryz.results24, go_sem, h0, h1, h2]) rfl ⟨by rw [HE.out.1, HE.out.2], by rw [HH.out]; exact LB⟩
  · have hj : j < s.L.length := by have := untl_le s.L k; omega
    have hL : s.L ≠ [] := by intro h; rw [h] at hj; simp at hj
    obtain ⟨g, cap, cur, hv, _, hgw, h1, h2, _, _⟩ := r1.own.some_ hL
    have hgl : g < w1.heap.size := (Array.getElem?_eq_some_iff.1 hgw).1
    have k0 := r1.own.key hv hj
    have k1 := r1.own.th0 hv hj
    have k2 := r1.own.th1 hv hj
    have k3 := r1.own.th2 hv hj
    subst hv
    have c1 := r1.blk.cell 1 _ rfl
    have hone : Trio (thing s.L j) := by
      obtain ⟨p, hp, _, e⟩ := keyAt_mem hj
      rw [← e]; exact r1.ones p hp
    obtain ⟨x0, x1, xo, xn, xc, hxx, hx0, hx1, hx2⟩ := hone.letters
    rw [hx0] at k1
    rw [hx1] at k2
    rw [hx2] at k3
    have hat : isAt s.L k = decide (keyAt s.L j = k) := by simp [isAt, hu]
    have HE : Hid (keyAt s.L j = k → getX s.L k (.agg #[.int .i64 0, .int .i64 0, .slice none 0 0]) = .agg #[.int .i64 x0, .int .i64 x1, .slice xo xn xc] ∧ isAt s.L k = true) := fun e => by
      have h' : isAt s.L k = true := by rw [hat]; simpa using e
      exact ⟨by rw [← hxx]; unfold getX; rw [h', hu]; rfl, h'⟩
    have HF : Hid (¬ keyAt s.L j = k → getX s.L k (.agg #[.int .i64 0, .int .i64 0, .slice none 0 0]) = .agg #[.int .i64 0, .int .i64 0, .slice none 0 0] ∧ isAt s.L k = false) := fun e => by
      have h' : isAt s.L k = false := by rw [hat]; simpa using e
      exact ⟨by unfold getX; rw [h']; rfl, h'⟩
    obtain ⟨n, hn⟩ : ∃ n, s.L.length = n := ⟨_, rfl⟩
    obtain ⟨kk, hk⟩ : ∃ x, keyAt s.L j = x := ⟨_, rfl⟩
    have ne1 : H ≠ R := by omega
    rw [hn] at c1 hj h1
    rw [hk] at k0 HE HF
    clear r1 hn hk hx0 hx1 hx2 hxx hone hL hat hu hgw
    by_cases he : kk = k
    · subst he
      have d9 : (kk != kk) = false := by simp
      have HG := HE.out rfl
      have HG1 : Hid _ := HG.1
      have HG2 : Hid _ := HG.2
      clear HE HF HG
      have d0 := Y1.cell 0 _ rfl
      have f0 := Y1.froz 0
      have d1 := Y1.cell 1 _ rfl
      have f1 := Y1.froz 1
      have d2 := Y1.cell 2 _ rfl
      have f2 := Y1.froz 2
      have lr := Y1.lt
      go_wp2_with fail
      have RB := blk_three (x0 := .int .i64 x0) (x1 := .int .i64 x1) (x2 := .slice xo xn xc) Y1
      have LB := below_three (x0 := .int .i64 x0) (x1 := .int .i64 x1) (x2 := .slice xo xn xc) B1 (show H ≤ H by omega)
      generalize ((w1.setCell ⟨H, 0, none⟩ (.int .i64 x0)).setCell ⟨H, 1, none⟩ (.int .i64 x1)).setCell ⟨H, 2, none⟩ (.slice xo xn xc) = W9 at RB LB ⊢
      have h0 := RB.cell 0 _ rfl
      have h1 := RB.cell 1 _ rfl
      have h2 := RB.cell 2 _ rfl
      refine bodyPost_ret (v := .tuple #[.agg #[.int .i64 x0, .int .i64 x1, .slice xo xn xc], .bool true]) (by simp [results, Tryz.results24, go_sem, h0, h1, h2]) rfl ⟨by rw [HG1.out, HG2.out], by rw [HH.out]; exact LB⟩
    · have d9 : (kk != k) = true := by simpa using he
      have HG := HF.out he
      have HG1 : Hid _ := HG.1
      have HG2 : Hid _ := HG.2
      clear HE HF HG
      have d0 := Y1.cell 0 _ rfl
      have f0 := Y1.froz 0
      have d1 := Y1.cell 1 _ rfl
      have f1 := Y1.froz 1
      have d2 := Y1.cell 2 _ rfl
      have f2 := Y1.froz 2
      have lr := Y1.lt
      go_upto_region 4 with fail
      generalize hV : w1.alloc (.cells #[.int .i64 0, .int .i64 0, .slice none 0 0] 45) = W2
      obtain ⟨X2, bn, -⟩ := boxed hV
      have Y2 := Y1.below bn Y1.lt
      have B2 := bup B1 (Nat.le_of_eq HH.out.symm) bn
      obtain ⟨V, hV2⟩ : ∃ V, w1.heap.size = V := ⟨_, rfl⟩
      rw [hV2] at X2 ⊢
      clear hV hV2 bn d0 f0 d1 f1 d2 f2 lr
      have d0 := Y2.cell 0 _ rfl
      have f0 := Y2.froz 0
      have d1 := Y2.cell 1 _ rfl
      have f1 := Y2.froz 1
      have d2 := Y2.cell 2 _ rfl
      have f2 := Y2.froz 2
      have lr := Y2.lt
      have v0 := X2.cell 0 _ rfl
      have v1 := X2.cell 1 _ rfl
      have v2 := X2.cell 2 _ rfl
      have lv := X2.lt
      go_wp2_with fail
      have RB := blk_three (x0 := .int .i64 0) (x1 := .int .i64 0) (x2 := .slice none 0 0) Y2
      have LB := below_three (x0 := .int .i64 0) (x1 := .int .i64 0) (x2 := .slice none 0 0) B2 (show H ≤ H by omega)
      generalize ((W2.setCell ⟨H, 0, none⟩ (.int .i64 0)).setCell ⟨H, 1, none⟩ (.int .i64 0)).setCell ⟨H, 2, none⟩ (.slice none 0 0) = W9 at RB LB ⊢
      have h0 := RB.cell 0 _ rfl
      have h1 := RB.cell 1 _ rfl
      have h2 := RB.cell 2 _ rfl
      refine bodyPost_ret (v := .tuple #[.agg #[.int .i64 0, .int .i64 0, .slice none 0 0], .bool false]) (by simp [results, Tryz.results24, go_sem, h0, h1, h2]) rfl ⟨by rw [HG1.out, HG2.out], by rw [HH.out]; exact LB⟩
set_option maxHeartbeats 8000000 in
/-- Lay. -/
theorem lay_anyP (w : World) (B R : Nat) (v : Value) (s : Rs) (h : RngV 90 w B R v s) (k : Int) (hk : -9223372036854775808 ≤ k ∧ k ≤ 9223372036854775807) (xt xm : Int) (xo : Option Addr) (xn xc : Nat) :
    Calls Tryz.prog 37 #[.pointer (some ⟨R, 0, none⟩), .int .i64 k, .agg #[.int .i64 xt, .int .i64 xm, .slice xo xn xc]] w fun e w' => e = .returned (.tuple #[.int .i64 (layA s k).1, .bool (layA s k).2.1, .int .i64 (layA s k).2.2]) ∧ ∃ v', RngV 90 w' B R v' (layS s k (.agg #[.int .i64 xt, .int .i64 xm, .slice xo xn xc])) ∧ Chg B R v v' w w' := by
  have H0 : Hid (RngV 90 w B R v s) := h
  have hBR := h.le
  have hRw := h.blk.lt
  have hlen := h.ok.len
  have hmost := h.ok.most
  clear h
  go_enter Tryz.func37, Tryz.ntmps37
  go_upto_region 1 with fail
  generalize hW : w.alloc (.cells #[.int .i64 xt, .int .i64 xm, .slice xo xn xc] 45) = W
  obtain ⟨X0, b0, -⟩ := boxed hW
  have R0 : Hid (RngV 90 W B R v s) := H0.out.below b0
  have HVX : ∀ g, v.ownBlock = some g → g < w.heap.size := fun g hg => (H0.out.own.lt g hg).2
  obtain ⟨X, hX⟩ : ∃ X, w.heap.size = X := ⟨_, rfl⟩
  have HXX : Hid (w.heap.size = X) := hX
  rw [hX] at X0 hRw HVX
  rw [hX]
  clear hW hX
  go_wp2_with fail
  refine (until_anyP W B R v s R0.out k).mono ?_; rintro e w1 ⟨rfl, b1⟩
  have X1 := X0.below b1 X0.lt
  have nX : X ≠ R := by omega
  have nXv : some X ≠ v.ownBlock := fun e => by have := HVX X e.symm; omega
  clear HVX X0
  have C1 : Hid (Chg B R v v w w1) := Chg.of_below (bup b0 (Nat.le_refl _) b1) (by rw [HXX.out]; omega)
  have R1 : Hid (RngV 90 w1 B R v s) := R0.out.below b1
  have hR1 := R1.out.blk.lt
  clear H0 R0 b0 b1
  obtain ⟨ao, cap, rfl, e1, e2, _⟩ := R1.out.own.form
  have c0 := R1.out.blk.cell 0 _ rfl
  have c1 := R1.out.blk.cell 1 _ rfl
  obtain ⟨n, hn⟩ : ∃ n, s.L.length = n := ⟨_, rfl⟩
  have HN : Hid (s.L.length = n) := hn
  obtain ⟨M, hM⟩ : ∃ M, s.M = M := ⟨_, rfl⟩
  have HM : Hid (s.M = M) := hM
  rw [hn] at c1 hlen e1 R1 C1
  rw [hM] at c0 hlen hmost
  clear hn hM
  rcases hu : untl s.L k with _ | j
  · have HU : Hid (untl s.L k = 0) := hu
    have hat : Hid (isAt s.L k = false) := by show isAt s.L k = false; simp [isAt, hu]
    clear hu
    by_cases hf : n = M
    · have HE : Hid (layA s k = (0, false, 13) ∧ layS s k (.agg #[.int .i64 xt, .int .i64 xm, .slice xo xn xc]) = s) := lay_stale hat.out ⟨HU.out, by rw [HN.out, HM.out]; exact hf⟩
      subst hf
      go_wp2_with fail
      go_quiet (fail)
      go_wp2_with fail
      go_ret3
      rw [HE.out.1, HE.out.2, HN.out]
      exact ⟨rfl, _, R1.out.drewN _, C1.out.drewN _⟩
    · have d3 : decide ((n : Int) = (M : Int)) = false := by simp; omega
      have d4 : ((n : Int) == (M : Int)) = false := by simp; omega
      have d4' : ¬ ((n : Int) = (M : Int)) := by omega
      have hfi : n < M := by omega
      go_wp2_with fail
      go_quiet (fail)
      have R6 : Hid (RngV 90 (w1.drewN nq) B R (.slice ao n cap) s) := R1.out.drewN nq
      have C6 : Hid (Chg B R (.slice ao n cap) (.slice ao n cap) w (w1.drewN nq)) := C1.out.drewN nq
      have hR6 : R < (World.heap (w1.drewN nq)).size := hR1
      have X6 := X1.drewN nq
      clear R1 C1 c0 c1 X1
      generalize (w1.drewN nq) = w6 at R6 C6 hR6 X6 ⊢
      have c0 := R6.out.blk.cell 0 _ rfl
      have c1 := R6.out.blk.cell 1 _ rfl
      obtain ⟨W2, hW2⟩ : ∃ W2, w6.drew.alloc (.cells #[.int .i64 k, .int .i64 xt, .int .i64 xm, .slice xo xn xc] 90) = W2 := ⟨_, rfl⟩
      obtain ⟨_, x2, x3, x4⟩ := boxA hW2
      have x3 : W2.heap.size = w6.heap.size + 1 := x3
      have C2 : Hid (Chg B R (.slice ao n cap) (.slice ao n cap) w W2) := C6.out.drew.trans (Chg.of_below x2 (by show B ≤ w6.heap.size; omega))
      have O2 := R6.out.drew.own.below x2
      have B2 := R6.out.drew.blk.low x2 hR6
      have X2 := X6.drew.below x2 X6.lt
      have hvb : some w6.heap.size ≠ (Value.slice ao n cap).ownBlock := fun e => by
        have := (R6.out.own.lt w6.heap.size e.symm).2
        omega
      have hB2 : B ≤ W2.heap.size := by omega
      obtain ⟨V, hV⟩ : ∃ V, w6.heap.size = V := ⟨_, rfl⟩
      have x4 : W2.heap[w6.heap.size]? = _ := x4
      rw [hV] at x4 hvb
      have HI : Hid (Calls Tryz.prog 53 #[.slice ao n cap, .int .i64 ((0 : Nat) : Int), .slice (some ⟨V, 0, none⟩) 1 1] W2 fun e w' => ∃ v', e = .returned v' ∧ OwnP 90 w' B v' (laid s.L k (.agg #[.int .i64 xt, .int .i64 xm, .slice xo xn xc])) ∧ Grow B (.slice ao n cap) W2 v' w') := by
        have := ins_anyP W2 B hB2 (.slice ao n cap) s.L O2 R6.out.ones (by rw [HN.out]; omega) (0) (by rw [HN.out]; omega) (k, .agg #[.int .i64 xt, .int .i64 xm, .slice xo xn xc]) trio_mk V x4 hvb
        unfold laid
        rw [HU.out]
        exact this
      clear x2 x3 x4 O2 hvb
      have HB2 : Hid (Blk W2 R _) := B2
      clear B2
      have xb0 := X6.cell 0 _ rfl
      have xb1 := X6.cell 1 _ rfl
      have xb2 := X6.cell 2 _ rfl
      have lxb := X6.lt
      have xc0 := X2.cell 0 _ rfl
      have xc1 := X2.cell 1 _ rfl
      have xc2 := X2.cell 2 _ rfl
      have lxc := X2.lt
      have rc1 := HB2.out.cell 1 _ rfl
      go_upto_region 8 with fail
      go_cut [56] (fun _ wx => ∃ ao3 cap3, Blk wx R [.int .i64 (s.M : Nat), .slice ao3 (n + 1) cap3, .int .i64 s.F, .bool s.G] ∧ OwnP 90 wx B (.slice ao3 (n + 1) cap3) (laid s.L k (.agg #[.int .i64 xt, .int .i64 xm, .slice xo xn xc])) ∧ some R ≠ (Value.slice ao3 (n + 1) cap3).ownBlock ∧ Chg B R (.slice ao n cap) (.slice ao3 (n + 1) cap3) w wx)
      case first =>
        go_region_with (first | (go_at_call 53; refine HI.out.mono ?_; rintro e w3 ⟨v3, rfl, o3, g3⟩; have g3c := Chg.of_grow (R := R) g3; have hne3 : some R ≠ v3.ownBlock := g3c.off HB2.out.lt R6.out.ne; have B3 : Blk w3 R _ := HB2.out.grwn g3.by_ R6.out.ne; have C3 : Hid (Chg B R (.slice ao n cap) v3 w w3) := C2.out.trans g3c; obtain ⟨ao3, cap3, e3, _, _, _⟩ := o3.form; rw [laid_len, HN.out] at e3; subst e3; have O3 : Hid (OwnP 90 w3 B (.slice ao3 (n + 1) cap3) (laid s.L k (.agg #[.int .i64 xt, .int .i64 xm, .slice xo xn xc]))) := o3; clear o3 g3 g3c; have rf3 := B3.froz 1; have rc3 := B3.cell 1 _ rfl; have rl3 := B3.lt))
        all_goals (go_wp2_with fail)
        all_goals go_meet
        all_goals exact ⟨ao3, cap3, B3.set 1 _ (by simp), O3.out.kept (grown_set w3 R 1 _) (by
          cases hq : (Value.slice ao3 (n + 1) cap3).ownBlock with
          | none => exact Or.inl rfl
          | some q => exact Or.inr (fun e => hne3 (by rw [hq]; exact e.symm))), hne3, C3.out.trans (Chg.set hBR)⟩
      case rest =>
        obtain ⟨ao3, cap3, B4, o4, hne4, c4⟩ := hcut
        generalize wc = W4 at B4 o4 c4 ⊢
        have O4 : Hid (OwnP 90 W4 B (.slice ao3 (n + 1) cap3) (laid s.L k (.agg #[.int .i64 xt, .int .i64 xm, .slice xo xn xc]))) := o4
        have C4 : Hid (Chg B R (.slice ao n cap) (.slice ao3 (n + 1) cap3) w W4) := c4
        have HB4 : Hid (Blk W4 R [.int .i64 (s.M : Nat), .slice ao3 (n + 1) cap3, .int .i64 s.F, .bool s.G]) := B4
        have hne3' : Hid (some R ≠ (Value.slice ao3 (n + 1) cap3).ownBlock) := hne4
        have x0 := B4.cell 0 _ rfl
        have x1 := B4.cell 1 _ rfl
        rw [HM.out] at x0
        have hz0 : IntKind.i64.wrap ((n : Int) + 1) = (n : Int) + 1 := by rw [IntKind.wrap_i64]; omega
        clear B4 HB2 o4 c4 hne4 HI hW2 hB2 c0 c1 xb0 xb1 xb2 lxb xc0 xc1 xc2 lxc rc1
        have hW4 : True := trivial
        have HE : Hid (layA s k = (0, false, 0) ∧ layS s k (.agg #[.int .i64 xt, .int .i64 xm, .slice xo xn xc]) = { s with L := laid s.L k (.agg #[.int .i64 xt, .int .i64 xm, .slice xo xn xc]) }) := lay_fit hat.out (by rw [HN.out, HM.out]; exact hfi)
        have d5 : decide ((n : Int) + 1 ≤ (M : Int)) = true := by simp; omega
        have d6 : n + 1 ≤ M := by omega
        go_wp2_with fail
        go_quiet (fail)
        go_wp2_with fail
        go_ret3
        rw [HE.out.1, HN.out]
        refine ⟨rfl, _, RngV.drewN ?_ _, C4.out.drewN _⟩
        have ok := lay_ok R6.out.ok hk (.agg #[.int .i64 xt, .int .i64 xm, .slice xo xn xc])
        rw [HE.out.2] at ok ⊢
        exact ⟨HB4.out, O4.out, ok, R6.out.ones.laid k trio_mk, hne3'.out, hBR⟩
  · have HU : Hid (untl s.L k = j + 1) := hu
    have hj : j < n := by have := untl_le s.L k; have := HN.out; omega
    obtain ⟨g, hg⟩ : ∃ g, ao = some ⟨g, 0, none⟩ := by
      have hL : s.L ≠ [] := by intro h; have := HN.out; rw [h] at this; simp at this; omega
      obtain ⟨g, _, _, hv, _⟩ := R1.out.own.some_ hL
      injection hv with hv _ _
      exact ⟨g, hv⟩
    subst hg
    have k0 := R1.out.own.key rfl (i := j) (by rw [HN.out]; exact hj)
    have hat0 : isAt s.L k = decide (keyAt s.L j = k) := by simp [isAt, hu]
    have HT : Hid (isAt s.L k = decide (keyAt s.L j = k)) := hat0
    clear hat0 hu
    obtain ⟨kk, hkk⟩ : ∃ x, keyAt s.L j = x := ⟨_, rfl⟩
    rw [hkk] at k0 HT
    clear hkk
    by_cases he : kk = k
    · subst he
      have HE : Hid (layA s kk = (0, false, 12) ∧ layS s kk (.agg #[.int .i64 xt, .int .i64 xm, .slice xo xn xc]) = s) := lay_dup (by rw [HT.out]; simp)
      clear HT
      go_wp2_with fail
      go_ret3
      rw [HE.out.1, HE.out.2, HN.out]
      exact ⟨rfl, _, R1.out, C1.out⟩
    · have hat : Hid (isAt s.L k = false) := by show isAt s.L k = false; rw [HT.out]; simpa using he
      clear HT
      have d2 : (kk == k) = false := by simpa using he
      have hd2 : decide (kk = k) = false := by simpa using he
      have hj1 : ¬ ((j : Int) + 1 = 0) := by omega
      go_wp2_with fail
      refine wp_region_any (by kernel_rfl) ?_
      change wpAny _ _ _ _ _ _ _ (World.drew _)
      refine take_to (i := 0) (d := some 32) (v := (.int .i64 ((j : Int) + 1))) rfl rfl (by kernel_rfl) (by kernel_rfl) (by kernel_rfl) (fun _ _ _ h => h) (Or.inl ⟨by rfl, fun w => by go_simp⟩) ?_
      simp only [Act.put, List.setIfInBounds_toArray, List.set_cons_zero, List.set_cons_succ]
      refine take_to (i := 1) (d := some 33) (v := (.bool false)) rfl rfl (by kernel_rfl) (by kernel_rfl) (by kernel_rfl) (fun _ _ _ h => h) (Or.inl ⟨by rfl, fun w => by go_simp⟩) ?_
      simp only [Act.put, List.setIfInBounds_toArray, List.set_cons_zero, List.set_cons_succ]
      refine take_to (i := 2) (d := some 34) (v := (.bool false)) rfl rfl (by kernel_rfl) (by kernel_rfl) (by kernel_rfl) (fun _ _ _ h => h) (Or.inl ⟨by rfl, fun w => by go_simp⟩) ?_
      simp only [Act.put, List.setIfInBounds_toArray, List.set_cons_zero, List.set_cons_succ]
      refine take_to (i := 3) (d := some 35) (v := undef) rfl rfl (by kernel_rfl) (by kernel_rfl) (by kernel_rfl) (fun _ _ _ h => h) (Or.inr ⟨by rfl, rfl⟩) ?_
      simp only [Act.put, List.setIfInBounds_toArray, List.set_cons_zero, List.set_cons_succ]
      refine take_to (i := 4) (d := some 36) (v := undef) rfl rfl (by kernel_rfl) (by kernel_rfl) (by kernel_rfl) (fun _ _ _ h => h) (Or.inr ⟨by rfl, rfl⟩) ?_
      simp only [Act.put, List.setIfInBounds_toArray, List.set_cons_zero, List.set_cons_succ]
      refine take_to (i := 5) (d := some 37) (v := undef) rfl rfl (by kernel_rfl) (by kernel_rfl) (by kernel_rfl) (fun _ _ _ h => h) (Or.inr ⟨by rfl, rfl⟩) ?_
      simp only [Act.put, List.setIfInBounds_toArray, List.set_cons_zero, List.set_cons_succ]
      refine take_to (i := 6) (d := some 38) (v := undef) rfl rfl (by kernel_rfl) (by kernel_rfl) (by kernel_rfl) (fun _ _ _ h => h) (Or.inr ⟨by rfl, rfl⟩) ?_
      simp only [Act.put, List.setIfInBounds_toArray, List.set_cons_zero, List.set_cons_succ]
      refine take_to (i := 7) (d := some 39) (v := undef) rfl rfl (by kernel_rfl) (by kernel_rfl) (by kernel_rfl) (fun _ _ _ h => h) (Or.inr ⟨by rfl, rfl⟩) ?_
      simp only [Act.put, List.setIfInBounds_toArray, List.set_cons_zero, List.set_cons_succ]
      refine take_to (i := 8) (d := some 40) (v := undef) rfl rfl (by kernel_rfl) (by kernel_rfl) (by kernel_rfl) (fun _ _ _ h => h) (Or.inr ⟨by rfl, rfl⟩) ?_
      simp only [Act.put, List.setIfInBounds_toArray, List.set_cons_zero, List.set_cons_succ]
      refine take_to (i := 9) (d := some 41) (v := undef) rfl rfl (by kernel_rfl) (by kernel_rfl) (by kernel_rfl) (fun _ _ _ h => h) (Or.inr ⟨by rfl, rfl⟩) ?_
      simp only [Act.put, List.setIfInBounds_toArray, List.set_cons_zero, List.set_cons_succ]
      refine take_to (i := 10) (d := some 42) (v := undef) rfl rfl (by kernel_rfl) (by kernel_rfl) (by kernel_rfl) (fun _ _ _ h => h) (Or.inr ⟨by rfl, rfl⟩) ?_
      simp only [Act.put, List.setIfInBounds_toArray, List.set_cons_zero, List.set_cons_succ]
      refine take_to (i := 11) (d := some 43) (v := undef) rfl rfl (by kernel_rfl) (by kernel_rfl) (by kernel_rfl) (fun _ _ _ h => h) (Or.inr ⟨by rfl, rfl⟩) ?_
      simp only [Act.put, List.setIfInBounds_toArray, List.set_cons_zero, List.set_cons_succ]
      refine take_to (i := 12) (d := some 44) (v := undef) rfl rfl (by kernel_rfl) (by kernel_rfl) (by kernel_rfl) (fun _ _ _ h => h) (Or.inr ⟨by rfl, rfl⟩) ?_
      simp only [Act.put, List.setIfInBounds_toArray, List.set_cons_zero, List.set_cons_succ]
      refine take_to (i := 13) (d := some 45) (v := (.bool false)) rfl rfl (by kernel_rfl) (by kernel_rfl) (by kernel_rfl) (fun _ _ _ h => h) (Or.inl ⟨by rfl, fun w => by go_simp⟩) ?_
      simp only [Act.put, List.setIfInBounds_toArray, List.set_cons_zero, List.set_cons_succ]
      refine take_to (i := 14) (d := some 31) (v := (.bool false)) rfl rfl (by kernel_rfl) (by kernel_rfl) (by kernel_rfl) (fun _ _ _ h => h) (Or.inl ⟨by rfl, fun w => by go_simp⟩) ?_
      simp only [Act.put, List.setIfInBounds_toArray, List.set_cons_zero, List.set_cons_succ]
      refine wpAny_done (by kernel_rfl) ?_ _
      have R6 : Hid (RngV 90 w1.drew B R (.slice (some ⟨g, 0, none⟩) n cap) s) := R1.out.drew
      have C6 : Hid (Chg B R (.slice (some ⟨g, 0, none⟩) n cap) (.slice (some ⟨g, 0, none⟩) n cap) w w1.drew) := C1.out.drew
      have hR6 : R < (World.heap w1.drew).size := hR1
      have X6 := X1.drew
      clear R1 C1 c0 c1 X1
      generalize w1.drew = w6 at R6 C6 hR6 X6 ⊢
      have c0 := R6.out.blk.cell 0 _ rfl
      have c1 := R6.out.blk.cell 1 _ rfl
      obtain ⟨W2, hW2⟩ : ∃ W2, w6.drew.alloc (.cells #[.int .i64 k, .int .i64 xt, .int .i64 xm, .slice xo xn xc] 90) = W2 := ⟨_, rfl⟩
      obtain ⟨_, x2, x3, x4⟩ := boxA hW2
      have x3 : W2.heap.size = w6.heap.size + 1 := x3
      have C2 : Hid (Chg B R (.slice (some ⟨g, 0, none⟩) n cap) (.slice (some ⟨g, 0, none⟩) n cap) w W2) := C6.out.drew.trans (Chg.of_below x2 (by show B ≤ w6.heap.size; omega))
      have O2 := R6.out.drew.own.below x2
      have B2 := R6.out.drew.blk.low x2 hR6
      have X2 := X6.drew.below x2 X6.lt
      have hvb : some w6.heap.size ≠ (Value.slice (some ⟨g, 0, none⟩) n cap).ownBlock := fun e => by
        have := (R6.out.own.lt w6.heap.size e.symm).2
        omega
      have hB2 : B ≤ W2.heap.size := by omega
      obtain ⟨V, hV⟩ : ∃ V, w6.heap.size = V := ⟨_, rfl⟩
      have x4 : W2.heap[w6.heap.size]? = _ := x4
      rw [hV] at x4 hvb
      have HI : Hid (Calls Tryz.prog 53 #[.slice (some ⟨g, 0, none⟩) n cap, .int .i64 ((j + 1 : Nat) : Int), .slice (some ⟨V, 0, none⟩) 1 1] W2 fun e w' => ∃ v', e = .returned v' ∧ OwnP 90 w' B v' (laid s.L k (.agg #[.int .i64 xt, .int .i64 xm, .slice xo xn xc])) ∧ Grow B (.slice (some ⟨g, 0, none⟩) n cap) W2 v' w') := by
        have := ins_anyP W2 B hB2 (.slice (some ⟨g, 0, none⟩) n cap) s.L O2 R6.out.ones (by rw [HN.out]; omega) (j + 1) (by rw [HN.out]; omega) (k, .agg #[.int .i64 xt, .int .i64 xm, .slice xo xn xc]) trio_mk V x4 hvb
        unfold laid
        rw [HU.out]
        exact this
      clear x2 x3 x4 O2 hvb
      have HB2 : Hid (Blk W2 R _) := B2
      clear B2
      have xb0 := X6.cell 0 _ rfl
      have xb1 := X6.cell 1 _ rfl
      have xb2 := X6.cell 2 _ rfl
      have lxb := X6.lt
      have xc0 := X2.cell 0 _ rfl
      have xc1 := X2.cell 1 _ rfl
      have xc2 := X2.cell 2 _ rfl
      have lxc := X2.lt
      have rc1 := HB2.out.cell 1 _ rfl
      go_upto_region 8 with fail
      go_cut [56] (fun _ wx => ∃ ao3 cap3, Blk wx R [.int .i64 (s.M : Nat), .slice ao3 (n + 1) cap3, .int .i64 s.F, .bool s.G] ∧ OwnP 90 wx B (.slice ao3 (n + 1) cap3) (laid s.L k (.agg #[.int .i64 xt, .int .i64 xm, .slice xo xn xc])) ∧ some R ≠ (Value.slice ao3 (n + 1) cap3).ownBlock ∧ Chg B R (.slice (some ⟨g, 0, none⟩) n cap) (.slice ao3 (n + 1) cap3) w wx)
      case first =>
        go_region_with (first | (go_at_call 53; refine HI.out.mono ?_; rintro e w3 ⟨v3, rfl, o3, g3⟩; have g3c := Chg.of_grow (R := R) g3; have hne3 : some R ≠ v3.ownBlock := g3c.off HB2.out.lt R6.out.ne; have B3 : Blk w3 R _ := HB2.out.grwn g3.by_ R6.out.ne; have C3 : Hid (Chg B R (.slice (some ⟨g, 0, none⟩) n cap) v3 w w3) := C2.out.trans g3c; obtain ⟨ao3, cap3, e3, _, _, _⟩ := o3.form; rw [laid_len, HN.out] at e3; subst e3; have O3 : Hid (OwnP 90 w3 B (.slice ao3 (n + 1) cap3) (laid s.L k (.agg #[.int .i64 xt, .int .i64 xm, .slice xo xn xc]))) := o3; clear o3 g3 g3c; have rf3 := B3.froz 1; have rc3 := B3.cell 1 _ rfl; have rl3 := B3.lt))
        all_goals (go_wp2_with fail)
        all_goals go_meet
        all_goals exact ⟨ao3, cap3, B3.set 1 _ (by simp), O3.out.kept (grown_set w3 R 1 _) (by
          cases hq : (Value.slice ao3 (n + 1) cap3).ownBlock with
          | none => exact Or.inl rfl
          | some q => exact Or.inr (fun e => hne3 (by rw [hq]; exact e.symm))), hne3, C3.out.trans (Chg.set hBR)⟩
      case rest =>
        obtain ⟨ao3, cap3, B4, o4, hne4, c4⟩ := hcut
        generalize wc = W4 at B4 o4 c4 ⊢
        have O4 : Hid (OwnP 90 W4 B (.slice ao3 (n + 1) cap3) (laid s.L k (.agg #[.int .i64 xt, .int .i64 xm, .slice xo xn xc]))) := o4
        have C4 : Hid (Chg B R (.slice (some ⟨g, 0, none⟩) n cap) (.slice ao3 (n + 1) cap3) w W4) := c4
        have HB4 : Hid (Blk W4 R [.int .i64 (s.M : Nat), .slice ao3 (n + 1) cap3, .int .i64 s.F, .bool s.G]) := B4
        have hne3' : Hid (some R ≠ (Value.slice ao3 (n + 1) cap3).ownBlock) := hne4
        have x0 := B4.cell 0 _ rfl
        have x1 := B4.cell 1 _ rfl
        rw [HM.out] at x0
        have hz0 : IntKind.i64.wrap ((n : Int) + 1) = (n : Int) + 1 := by rw [IntKind.wrap_i64]; omega
        clear B4 HB2 o4 c4 hne4 HI hW2 hB2 c0 c1 xb0 xb1 xb2 lxb xc0 xc1 xc2 lxc rc1
        have hW4 : True := trivial
        by_cases hfi : n < M
        · have HE : Hid (layA s k = (0, false, 0) ∧ layS s k (.agg #[.int .i64 xt, .int .i64 xm, .slice xo xn xc]) = { s with L := laid s.L k (.agg #[.int .i64 xt, .int .i64 xm, .slice xo xn xc]) }) := lay_fit hat.out (by rw [HN.out, HM.out]; exact hfi)
          have d5 : decide ((n : Int) + 1 ≤ (M : Int)) = true := by simp; omega
          have d6 : n + 1 ≤ M := by omega
          go_wp2_with fail
          go_quiet (fail)
          go_wp2_with fail
          go_ret3
          rw [HE.out.1, HN.out]
          refine ⟨rfl, _, RngV.drewN ?_ _, C4.out.drewN _⟩
          have ok := lay_ok R6.out.ok hk (.agg #[.int .i64 xt, .int .i64 xm, .slice xo xn xc])
          rw [HE.out.2] at ok ⊢
          exact ⟨HB4.out, O4.out, ok, R6.out.ones.laid k trio_mk, hne3'.out, hBR⟩
        · have HE : Hid (layA s k = (keyAt (laid s.L k (.agg #[.int .i64 xt, .int .i64 xm, .slice xo xn xc])) 0, true, 0) ∧ layS s k (.agg #[.int .i64 xt, .int .i64 xm, .slice xo xn xc]) = { s with L := (laid s.L k (.agg #[.int .i64 xt, .int .i64 xm, .slice xo xn xc])).tail, F := keyAt (laid s.L k (.agg #[.int .i64 xt, .int .i64 xm, .slice xo xn xc])) 0, G := true }) := lay_full hat.out (by rw [HU.out]; simp) (by rw [HN.out, HM.out]; omega)
          have d5 : decide ((n : Int) + 1 ≤ (M : Int)) = false := by simp; omega
          have d6 : ¬ (n + 1 ≤ M) := by omega
          go_wp2_with fail
          go_quiet (fail)
          have HB5 : Hid (Blk (W4.drewN nq) R [.int .i64 (s.M : Nat), .slice ao3 (n + 1) cap3, .int .i64 s.F, .bool s.G]) := ⟨HB4.out.lt, HB4.out.all, HB4.out.froz⟩
          have O5 : Hid (OwnP 90 (W4.drewN nq) B (.slice ao3 (n + 1) cap3) (laid s.L k (.agg #[.int .i64 xt, .int .i64 xm, .slice xo xn xc]))) := O4.out
          have C5 : Hid (Chg B R (.slice (some ⟨g, 0, none⟩) n cap) (.slice ao3 (n + 1) cap3) w (W4.drewN nq)) := C4.out.drewN nq
          clear HB4 O4 C4 x0 x1 hW4
          generalize W4.drewN nq = W5 at HB5 O5 C5 ⊢
          go_wp2_with fail
          refine (drop_anyP W5 B R s.M s.F s.G _ _ HB5.out O5.out (R6.out.ones.laid k trio_mk) n (by rw [laid_len, HN.out]) (by rw [laid_len, HN.out]; omega) hne3'.out hBR).mono ?_; rintro e w5 ⟨rfl, v5, b5, o5, n5, c5⟩
          have HR5 : Hid (Blk w5 R _ ∧ OwnP 90 w5 B v5 _ ∧ some R ≠ v5.ownBlock ∧ Chg B R _ v5 W5 w5) := ⟨b5, o5, n5, c5⟩
          clear b5 o5 n5 c5
          go_wp2_with fail
          go_ret3
          rw [HE.out.1, HN.out]
          refine ⟨rfl, v5, ?_, C5.out.trans HR5.out.2.2.2⟩
          have ok := lay_ok R6.out.ok hk (.agg #[.int .i64 xt, .int .i64 xm, .slice xo xn xc])
          rw [HE.out.2] at ok ⊢
          exact ⟨HR5.out.1, HR5.out.2.1, ok, (R6.out.ones.laid k trio_mk).tail, HR5.out.2.2.1, hBR⟩
end Go.Proofs.YtlpdhglibgnkoaaGreat

namespace Go.Proofs.YtlpdhglibgnkoaaGreat
open Go.RowKit
set_option linter.unusedVariables false

/-- A snapshot that is kept. -/
structure Sn where
  t : Int
  m : Int
  E : List En
def noSn : Sn := ⟨0, 0, []⟩
def atS (L : List Sn) (i : Nat) : Sn := L.getD i noSn
/-- How many ticks are no greater. -/
def untS (L : List Sn) (k : Int) : Nat := L.countP fun s => decide (s.t ≤ k)
theorem untS_le (L : List Sn) (k : Int) : untS L k ≤ L.length := List.countP_le_length
def isS (L : List Sn) (k : Int) : Bool := decide (0 < untS L k) && decide ((atS L (untS L k - 1)).t = k)
def getS (L : List Sn) (k : Int) : Sn := if isS L k = true then atS L (untS L k - 1) else noSn
def laidS (L : List Sn) (s : Sn) : List Sn := L.take (untS L s.t) ++ s :: L.drop (untS L s.t)
theorem laidS_len (L : List Sn) (s : Sn) : (laidS L s).length = L.length + 1 := by
  have := untS_le L s.t
  unfold laidS; simp; omega
/-- A store: how many there may be, what is kept, counts by errors. -/
structure Sto where
  M : Nat
  L : List Sn
  N : List Int
/-- The snapshot that a datagram is told by. -/
def tkB (L : List Sn) (b : Int) : Sn := if b = -1 then noSn else getS L b
def tkA (L : List Sn) (g : Gm) (R : List Rc) : Int := aplE (tkB L g.b).t (tkB L g.b).m (tkB L g.b).E g (atR R) R.length
def tkX (L : List Sn) (g : Gm) (R : List Rc) : Sn := ⟨g.t, g.m, aplL (tkB L g.b).t (tkB L g.b).m (tkB L g.b).E g (atR R) R.length⟩
/-- Is the time no time between its neighbours'? -/
def lateB (L : List Sn) (x : Sn) : Bool := (decide (0 < untS L x.t) && decide (x.m ≤ (atS L (untS L x.t - 1)).m)) || (decide (untS L x.t < L.length) && decide ((atS L (untS L x.t)).m ≤ x.m))
/-- Why a datagram isn't kept. -/
def stpE (M : Nat) (L : List Sn) (g : Gm) (R : List Rc) : Int :=
  if isS L g.t = true then 12
  else if L.length = M ∧ untS L g.t = 0 then 13
  else if g.b ≠ -1 ∧ isS L g.b = false then 14
  else if tkA L g R ≠ 0 then tkA L g R
  else if lateB L (tkX L g R) = true then 16 else 0
def keepS (M : Nat) (L : List Sn) (x : Sn) : List Sn := if L.length < M then laidS L x else (laidS L x).tail
def tkE (s : Sto) (l : List Int) : Int := if rgE l = 0 then stpE s.M s.L (rgG l) (rgL l) else rgE l
def tkT (s : Sto) (l : List Int) : Int := if tkE s l = 0 then (rgG l).t else 0
def tkL (s : Sto) (l : List Int) : List Sn := if tkE s l = 0 then keepS s.M s.L (tkX s.L (rgG l) (rgL l)) else s.L
def incN (N : List Int) (e : Int) : List Int := N.set e.toNat (IntKind.i64.wrap (N.getD e.toNat 0 + 1))
/-- How a store stands behind bytes that came. -/
def accS (s : Sto) (l : List Int) : Sto := ⟨s.M, tkL s l, incN s.N (tkE s l)⟩
def emptyS (M : Nat) : Sto := ⟨M, [], List.replicate 18 0⟩

/-! things by things -/
def Fa2 (P : Pr → Sn → Prop) : List Pr → List Sn → Prop
  | [], [] => True
  | p :: L, s :: S => P p s ∧ Fa2 P L S
  | _, _ => False
section
variable {P Q : Pr → Sn → Prop}
theorem Fa2.len : ∀ {L : List Pr} {S : List Sn}, Fa2 P L S → L.length = S.length
  | [], [], _ => rfl
  | p :: L, s :: S, h => by simp [h.2.len]
  | [], s :: S, h => h.elim
  | p :: L, [], h => h.elim
theorem Fa2.mono (hPQ : ∀ p s, P p s → Q p s) : ∀ {L : List Pr} {S : List Sn}, Fa2 P L S → Fa2 Q L S
  | [], [], _ => trivial
  | p :: L, s :: S, h => ⟨hPQ _ _ h.1, h.2.mono hPQ⟩
  | [], s :: S, h => h.elim
  | p :: L, [], h => h.elim
theorem Fa2.take : ∀ (n : Nat) {L : List Pr} {S : List Sn}, Fa2 P L S → Fa2 P (L.take n) (S.take n)
  | 0, _, _, _ => by simp only [List.take_zero]; trivial
  | n + 1, [], [], _ => trivial
  | n + 1, p :: L, s :: S, h => ⟨h.1, h.2.take n⟩
  | n + 1, [], s :: S, h => h.elim
  | n + 1, p :: L, [], h => h.elim
theorem Fa2.drop : ∀ (n : Nat) {L : List Pr} {S : List Sn}, Fa2 P L S → Fa2 P (L.drop n) (S.drop n)
  | 0, _, _, h => h
  | n + 1, [], [], _ => trivial
  | n + 1, p :: L, s :: S, h => h.2.drop n
  | n + 1, [], s :: S, h => h.elim
  | n + 1, p :: L, [], h => h.elim
theorem Fa2.app : ∀ {L : List Pr} {S : List Sn} {L' : List Pr} {S' : List Sn}, Fa2 P L S → Fa2 P L' S' → Fa2 P (L ++ L') (S ++ S')
  | [], [], _, _, _, h => h
  | p :: L, s :: S, _, _, h, h' => ⟨h.1, h.2.app h'⟩
  | [], s :: S, _, _, h, _ => h.elim
  | p :: L, [], _, _, h, _ => h.elim
theorem Fa2.tail : ∀ {L : List Pr} {S : List Sn}, Fa2 P L S → Fa2 P L.tail S.tail
  | [], [], _ => trivial
  | p :: L, s :: S, h => h.2
  | [], s :: S, h => h.elim
  | p :: L, [], h => h.elim
theorem Fa2.at : ∀ {L : List Pr} {S : List Sn}, Fa2 P L S → ∀ i, i < L.length → P (keyAt L i, thing L i) (atS S i)
  | [], [], _, i, h => by simp at h
  | p :: L, s :: S, h, 0, _ => h.1
  | p :: L, s :: S, h, i + 1, hi => h.2.at i (by simpa using hi)
  | [], s :: S, h, _, _ => h.elim
  | p :: L, [], h, _, _ => h.elim
theorem Fa2.untl (hP : ∀ p s, P p s → p.1 = s.t) : ∀ {L : List Pr} {S : List Sn}, Fa2 P L S → ∀ k, untl L k = untS S k
  | [], [], _, k => rfl
  | p :: L, s :: S, h, k => by
    rw [untl_cons, h.2.untl hP k, hP _ _ h.1]
    unfold untS
    rw [List.countP_cons]; simp
  | [], s :: S, h, _ => h.elim
  | p :: L, [], h, _ => h.elim
theorem Fa2.key (hP : ∀ p s, P p s → p.1 = s.t) {L : List Pr} {S : List Sn} (h : Fa2 P L S) {i : Nat} (hi : i < L.length) : keyAt L i = (atS S i).t := hP _ _ (h.at i hi)
theorem Fa2.isAt (hP : ∀ p s, P p s → p.1 = s.t) {L : List Pr} {S : List Sn} (h : Fa2 P L S) (k : Int) : isAt L k = isS S k := by
  unfold Go.Proofs.YtlpdhglibgnkoaaGreat.isAt isS
  rw [h.untl hP]
  rcases hu : untS S k with _ | j
  · simp
  · have := untS_le S k
    have e := h.len
    rw [h.key hP (i := j + 1 - 1) (by omega)]
theorem Fa2.laid (hP : ∀ p s, P p s → p.1 = s.t) {L : List Pr} {S : List Sn} (h : Fa2 P L S) {x : Value} {s : Sn} (hx : P (s.t, x) s) : Fa2 P (laid L s.t x) (laidS S s) := by
  unfold Go.Proofs.YtlpdhglibgnkoaaGreat.laid laidS
  rw [h.untl hP]
  exact (h.take _).app ⟨hx, h.drop _⟩
end
/-- Ticks rise. -/
def RiseT (L : List Sn) : Prop := L.Pairwise fun a b => a.t < b.t
theorem Fa2.rise {P : Pr → Sn → Prop} (hP : ∀ p s, P p s → p.1 = s.t) : ∀ {L : List Pr} {S : List Sn}, Fa2 P L S → Rise L → RiseT S
  | [], [], _, _ => List.Pairwise.nil
  | p :: L, s :: S, h, hr => by
    obtain ⟨h1, h2⟩ := rise_cons hr
    refine List.Pairwise.cons (fun b hb => ?_) (Fa2.rise hP h.2 h2)
    obtain ⟨i, hi, rfl⟩ := List.getElem_of_mem hb
    have hl : i < L.length := by rw [h.2.len]; exact hi
    have := h.2.key hP hl
    obtain ⟨q, hq, e, _⟩ := keyAt_mem hl
    have h3 := h1 q hq
    rw [hP _ _ h.1] at h3
    rw [e, this] at h3
    have e2 : atS S i = S[i] := by simp [atS, List.getD, hi]
    rw [e2] at h3; exact h3
  | [], s :: S, h, _ => h.elim
  | p :: L, [], h, _ => h.elim
/-- An error that is one of those that are counted. -/
def Eb (e : Int) : Prop := 0 ≤ e ∧ e ≤ 17
theorem eb_tk {s : Sto} {l : List Int} (h1 : Eb (rgE l)) (h2 : Eb (tkA s.L (rgG l) (rgL l))) : Eb (tkE s l) := by
  unfold Eb at *
  unfold tkE stpE
  repeat' split
  all_goals first | omega | assumption
end Go.Proofs.YtlpdhglibgnkoaaGreat
