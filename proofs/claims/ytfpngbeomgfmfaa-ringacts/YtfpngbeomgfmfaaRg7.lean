/-
  Layer 11 (ring): Get, drop, Lay of rings, for things of three kinds (written by tools/rg7.py).
-/
import Derived.Test.YtfpngbeomgfmfaaRg6
import Derived.Test.YtfpngbeomgfmfaaReg
import Derived.Deep.LoopGhost
import Derived.Deep.DeepCutAuto
import Derived.Deep.CutBlock
import Derived.Deep.CutRange
namespace Go.Proofs.Ytfpngbeomgfmfaa
open Go.RowKit
set_option linter.unusedVariables false
set_option maxRecDepth 20000
theorem lay_dup {s : Rs} {k : Int} {x : Value} (h : isAt s.L k = true) : layA s k = (0, false, 12) ∧ layS s k x = s := by
  unfold layA layS; rw [if_pos h, if_pos h]; exact ⟨rfl, rfl⟩
theorem lay_stale {s : Rs} {k : Int} {x : Value} (h : isAt s.L k = false) (h' : untl s.L k = 0 ∧ s.L.length = s.M) : layA s k = (0, false, 13) ∧ layS s k x = s := by
  have h0 : ¬ isAt s.L k = true := by rw [h]; simp
  unfold layA layS; rw [if_neg h0, if_neg h0, if_pos h', if_pos h']; exact ⟨rfl, rfl⟩
theorem lay_fit {s : Rs} {k : Int} {x : Value} (h : isAt s.L k = false) (h' : s.L.length < s.M) : layA s k = (0, false, 0) ∧ layS s k x = { s with L := laid s.L k x } := by
  have h0 : ¬ isAt s.L k = true := by rw [h]; simp
  have h1 : ¬ (untl s.L k = 0 ∧ s.L.length = s.M) := by omega
  unfold layA layS; rw [if_neg h0, if_neg h0, if_neg h1, if_neg h1, if_pos h', if_pos h']; exact ⟨rfl, rfl⟩
theorem lay_full {s : Rs} {k : Int} {x : Value} (h : isAt s.L k = false) (h1 : ¬ (untl s.L k = 0 ∧ s.L.length = s.M)) (h' : ¬ s.L.length < s.M) : layA s k = (keyAt (laid s.L k x) 0, true, 0) ∧ layS s k x = { s with L := (laid s.L k x).tail, F := keyAt (laid s.L k x) 0, G := true } := by
  have h0 : ¬ isAt s.L k = true := by rw [h]; simp
  unfold layA layS; rw [if_neg h0, if_neg h0, if_neg h1, if_neg h1, if_neg h', if_neg h']
  exact ⟨by rw [keyAt_laid s.L k noPr.2 x], rfl⟩
set_option maxHeartbeats 4000000 in
/-- Get. -/
theorem get_anyS (w : World) (B R : Nat) (v : Value) (s : Rs) (h : RngV 77 w B R v s) (k : Int) :
    Calls Try.prog 14 #[.pointer (some ⟨R, 0, none⟩), .int .i64 k] w fun e w' => e = .returned (.tuple #[getX s.L k (.string ⟨#[]⟩), .bool (isAt s.L k)]) ∧ Below w.heap.size w w' := by
  have H0 : Hid (RngV 77 w B R v s) := h
  clear h
  go_enter Try.func14, Try.ntmps14
  go_wp2_with fail
  refine (until_anyS w B R v s H0.out k).mono ?_; rintro e w1 ⟨rfl, b1⟩
  have r1 := H0.out.below b1
  clear H0
  have HB : Hid (Below w.heap.size w w1) := b1
  clear b1
  rcases hu : untl s.L k with _ | j
  · have hat : isAt s.L k = false := by simp [isAt, hu]
    have HE : Hid (getX s.L k (.string ⟨#[]⟩) = .string ⟨#[]⟩ ∧ isAt s.L k = false) := ⟨by unfold getX; rw [hat]; rfl, hat⟩
    clear r1 hu hat
    go_wp2_with fail
    go_ret2
    rw [HE.out.1, HE.out.2]
    exact ⟨rfl, HB.out⟩
  · have hj : j < s.L.length := by have := untl_le s.L k; omega
    have hL : s.L ≠ [] := by intro h; rw [h] at hj; simp at hj
    obtain ⟨g, cap, cur, hv, _, _, h1, h2, _, _⟩ := r1.own.some_ hL
    have k0 := r1.own.key hv hj
    have k1 := r1.own.thing hv hj
    subst hv
    have c1 := r1.blk.cell 1 _ rfl
    have hone : (thing s.L j).oneCell' = true := by
      obtain ⟨p, hp, _, e⟩ := keyAt_mem hj
      rw [← e]; exact r1.ones p hp
    have hat : isAt s.L k = decide (keyAt s.L j = k) := by simp [isAt, hu]
    have HE : Hid (keyAt s.L j = k → getX s.L k (.string ⟨#[]⟩) = thing s.L j ∧ isAt s.L k = true) := fun e => by
      have h' : isAt s.L k = true := by rw [hat]; simpa using e
      exact ⟨by unfold getX; rw [h', hu]; rfl, h'⟩
    have HF : Hid (¬ keyAt s.L j = k → getX s.L k (.string ⟨#[]⟩) = .string ⟨#[]⟩ ∧ isAt s.L k = false) := fun e => by
      have h' : isAt s.L k = false := by rw [hat]; simpa using e
      exact ⟨by unfold getX; rw [h']; rfl, h'⟩
    obtain ⟨n, hn⟩ : ∃ n, s.L.length = n := ⟨_, rfl⟩
    obtain ⟨kk, hk⟩ : ∃ x, keyAt s.L j = x := ⟨_, rfl⟩
    obtain ⟨xx, hx⟩ : ∃ x, thing s.L j = x := ⟨_, rfl⟩
    rw [hn] at c1 hj h1
    rw [hk] at k0 HE HF
    rw [hx] at k1 hone HE
    clear r1 hn hk hx hL hat hu
    by_cases he : kk = k
    · subst he
      have d0 : (kk != kk) = false := by simp
      have HG := HE.out rfl
      have HG1 : Hid _ := HG.1
      have HG2 : Hid _ := HG.2
      clear HE HF HG
      go_wp2_with fail
      go_ret2
      rw [HG1.out, HG2.out]
      exact ⟨rfl, HB.out⟩
    · have d0 : (kk != k) = true := by simpa using he
      have HG := HF.out he
      have HG1 : Hid _ := HG.1
      have HG2 : Hid _ := HG.2
      clear HE HF HG
      go_wp2_with fail
      go_ret2
      rw [HG1.out, HG2.out]
      exact ⟨rfl, HB.out⟩
theorem get_nilS (w : World) (k : Int) : Calls Try.prog 14 #[.pointer none, .int .i64 k] w fun e w' => e = .returned (.tuple #[.string ⟨#[]⟩, .bool false]) ∧ Below w.heap.size w w' := by
  go_enter Try.func14, Try.ntmps14
  go_wp2_with fail
  refine (until_nilS w k).mono ?_; rintro e w1 ⟨rfl, b1⟩
  have HB : Hid (Below w.heap.size w w1) := b1
  clear b1
  go_wp2_with fail
  go_ret2
  exact ⟨rfl, HB.out⟩
set_option maxHeartbeats 4000000 in
/-- slices.Insert of one pair, wherever. -/
theorem ins_anyS (w : World) (B : Nat) (hB : B ≤ w.heap.size) (v : Value) (L : List Pr) (hown : OwnP 77 w B v L) (hones : Ones L) (hl : L.length ≤ 1000) (i : Nat) (hi : i ≤ L.length) (p : Pr) (hx : p.2.oneCell' = true) (vb : Nat)
    (hvb : w.heap[vb]? = some (.cells #[.int .i64 p.1, p.2] 77 (0, 0))) (hne : some vb ≠ v.ownBlock) :
    Calls Try.prog 31 #[v, .int .i64 (i : Nat), .slice (some ⟨vb, 0, none⟩) 1 1] w fun e w' => ∃ v', e = .returned v' ∧ OwnP 77 w' B v' (L.take i ++ p :: L.drop i) ∧ Grow B v w v' w' := by
  rcases Nat.lt_or_ge i L.length with h | h
  · have hL : L ≠ [] := by intro h'; rw [h'] at h; simp at h
    obtain ⟨g, cap, cur, rfl, hBg, hg, hc, hm, hcs, htk⟩ := hown.some_ hL
    rcases Nat.lt_or_ge cap (L.length + 1) with hr | hr
    · exact ins_growS w B hB L hones g cap cur hg hcs htk hl i h hc hr p hx vb hvb
    · refine (ins_roomS w B L hones g cap cur hg hBg hcs htk hl i h hr hm p hx vb hvb (fun e => hne (by rw [e]; rfl))).mono ?_
      rintro e w' ⟨rfl, o1, g1⟩
      exact ⟨_, rfl, o1, (Below.refl B w).grown g1 hB (fun k hk => by injection hk with hk; omega), g1, Or.inl rfl⟩
  · obtain rfl : i = L.length := by omega
    refine (ins_endS w B hB v L hown hl p hx vb hvb).mono ?_
    rintro e w' ⟨v', rfl, o1, g1⟩
    exact ⟨v', rfl, by rw [List.take_of_length_le (Nat.le_refl _), List.drop_of_length_le (Nat.le_refl _)]; exact o1, g1⟩
set_option maxHeartbeats 4000000 in
/-- drop. -/
theorem drop_anyS (w : World) (B R M : Nat) (F : Int) (G : Bool) (v : Value) (L : List Pr) (hb : Blk w R [.int .i64 (M : Nat), v, .int .i64 F, .bool G]) (hown : OwnP 77 w B v L) (hones : Ones L) (m : Nat) (hn : L.length = m + 1) (hl : L.length ≤ 1000)
    (hne : some R ≠ v.ownBlock) (hB : B ≤ R) :
    Calls Try.prog 32 #[.pointer (some ⟨R, 0, none⟩)] w fun e w' => e = .returned (.int .i64 (keyAt L 0)) ∧ ∃ v', Blk w' R [.int .i64 (M : Nat), v', .int .i64 (keyAt L 0), .bool true] ∧ OwnP 77 w' B v' L.tail ∧ some R ≠ v'.ownBlock ∧ Chg B R v v' w w' := by
  have hL : L ≠ [] := by intro h; rw [h] at hn; simp at hn
  obtain ⟨g, cap, cur, rfl, hBg, _, h1, h2, _, _⟩ := hown.some_ hL
  have k0 := hown.key rfl (i := 0) (by omega)
  rw [Nat.zero_mul] at k0
  obtain ⟨kk, hk⟩ : ∃ x, keyAt L 0 = x := ⟨_, rfl⟩
  rw [hk] at k0 ⊢
  have hgR : g ≠ R := fun e => hne (by rw [e]; rfl)
  have HO : Hid (OwnP 77 w B (.slice (some ⟨g, 0, none⟩) (m + 1) cap) L) := by rw [hn] at hown; exact hown
  have HN : Hid (L.length = m + 1) := hn
  rw [hn] at hb h1 hl
  rw [hn]
  have c1 := hb.cell 1 _ rfl
  have c2 := hb.cell 2 _ rfl
  have c3 := hb.cell 3 _ rfl
  have f2 := hb.froz 2
  have f3 := hb.froz 3
  have HB0 : Hid (Blk w R [.int .i64 (M : Nat), .slice (some ⟨g, 0, none⟩) (m + 1) cap, .int .i64 F, .bool G]) := hb
  have hlt := hb.lt
  clear hb hown hn hk hL
  go_enter Try.func32, Try.ntmps32
  go_upto_region 2 with fail
  obtain ⟨W1, hW1⟩ : ∃ W1, ((w.setCell ⟨R, 2, none⟩ (.int .i64 kk)).setCell ⟨R, 3, none⟩ (.bool true)) = W1 := ⟨_, rfl⟩
  have B1 : Blk W1 R [.int .i64 (M : Nat), .slice (some ⟨g, 0, none⟩) (m + 1) cap, .int .i64 kk, .bool true] := by
    rw [← hW1]; exact (HB0.out.set 2 _ (by simp)).set 3 _ (by simp)
  have g1 : Chg B R (.slice (some ⟨g, 0, none⟩) (m + 1) cap) (.slice (some ⟨g, 0, none⟩) (m + 1) cap) w W1 := by
    rw [← hW1]; exact (Chg.set hB).trans (Chg.set hB)
  have O1 : Hid (OwnP 77 W1 B (.slice (some ⟨g, 0, none⟩) (m + 1) cap) L) := by
    have e1 : w.grownBy W1 (some R) := by
      rw [← hW1]
      exact grown_trans (grown_set w R 2 _) (grown_set _ R 3 _)
    exact HO.out.kept e1 (Or.inr (fun e => hne e.symm))
  have G1 : Hid (Chg B R (.slice (some ⟨g, 0, none⟩) (m + 1) cap) (.slice (some ⟨g, 0, none⟩) (m + 1) cap) w W1) := g1
  rw [hW1]
  clear hW1 c1 c2 c3 f2 f3 HB0 HO k0 g1
  have c1 := B1.cell 1 _ rfl
  go_wp2_with fail
  refine (del_oneS W1 B L hones m HN.out g cap O1.out (by rw [HN.out]; exact hl)).mono ?_; rintro e w2 ⟨rfl, o2, g2⟩
  have cg2 : Hid (Chg B R (.slice (some ⟨g, 0, none⟩) (m + 1) cap) (.slice (some ⟨g, 0, none⟩) m cap) W1 w2) :=
    Chg.of_grown g2 rfl (Nat.le_trans hB (Nat.le_of_lt B1.lt)) (fun k hk => by
      have hk' : some g = some k := hk
      injection hk' with hk'; omega)
  have O2 : Hid (OwnP 77 w2 B (.slice (some ⟨g, 0, none⟩) m cap) L.tail) := o2
  have B2 := B1.grwn g2 (fun e => by injection e with e; exact hgR e.symm)
  clear c1 o2 g2 B1 O1
  have c1 := B2.cell 1 _ rfl
  have c2 := B2.cell 2 _ rfl
  have f1 := B2.froz 1
  obtain ⟨W3, hW3⟩ : ∃ W3, w2.setCell ⟨R, 1, none⟩ (.slice (some ⟨g, 0, none⟩) m cap) = W3 := ⟨_, rfl⟩
  have B3 : Blk W3 R [.int .i64 (M : Nat), .slice (some ⟨g, 0, none⟩) m cap, .int .i64 kk, .bool true] := by rw [← hW3]; exact B2.set 1 _ (by simp)
  have O3 : Hid (OwnP 77 W3 B (.slice (some ⟨g, 0, none⟩) m cap) L.tail) := by
    rw [← hW3]; exact O2.out.kept (grown_set w2 R 1 _) (Or.inr (fun e => hgR (by injection e)))
  have G3 : Hid (Chg B R (.slice (some ⟨g, 0, none⟩) (m + 1) cap) (.slice (some ⟨g, 0, none⟩) m cap) w W3) := by
    refine (G1.out.trans cg2.out).trans ?_
    rw [← hW3]; exact Chg.set hB
  clear B2 O2 G1 cg2
  have c3 := B3.cell 2 _ rfl
  go_wp2_with fail
  go_ret
  exact ⟨rfl, _, B3, O3.out, hne, G3.out⟩
set_option maxHeartbeats 8000000 in
/-- Lay. -/
theorem lay_anyS (w : World) (B R : Nat) (v : Value) (s : Rs) (h : RngV 77 w B R v s) (k : Int) (hk : -9223372036854775808 ≤ k ∧ k ≤ 9223372036854775807) (x : ByteArray) :
    Calls Try.prog 12 #[.pointer (some ⟨R, 0, none⟩), .int .i64 k, .string x] w fun e w' => e = .returned (.tuple #[.int .i64 (layA s k).1, .bool (layA s k).2.1, .int .i64 (layA s k).2.2]) ∧ ∃ v', RngV 77 w' B R v' (layS s k (.string x)) ∧ Chg B R v v' w w' := by
  have H0 : Hid (RngV 77 w B R v s) := h
  have hBR := h.le
  have hRw := h.blk.lt
  have hlen := h.ok.len
  have hmost := h.ok.most
  clear h
  go_enter Try.func12, Try.ntmps12
  go_wp2_with fail
  refine (until_anyS w B R v s H0.out k).mono ?_; rintro e w1 ⟨rfl, b1⟩
  have C1 : Hid (Chg B R v v w w1) := Chg.of_below b1 (by omega)
  have R1 : Hid (RngV 77 w1 B R v s) := H0.out.below b1
  have hR1 := R1.out.blk.lt
  clear H0 b1
  obtain ⟨ao, cap, rfl, e1, e2, _⟩ := R1.out.own.form
  have c0 := R1.out.blk.cell 0 _ rfl
  have c1 := R1.out.blk.cell 1 _ rfl
  obtain ⟨n, hn⟩ : ∃ n, s.L.length = n := ⟨_, rfl⟩
  have HN : Hid (s.L.length = n) := hn
  obtain ⟨M, hM⟩ : ∃ M, s.M = M := ⟨_, rfl⟩
  have HM : Hid (s.M = M) := hM
  rw [hn] at c1 hlen e1 R1 C1
  rw [hM] at c0 hlen hmost
  clear hn hM
  rcases hu : untl s.L k with _ | j
  · have HU : Hid (untl s.L k = 0) := hu
    have hat : Hid (isAt s.L k = false) := by show isAt s.L k = false; simp [isAt, hu]
    clear hu
    by_cases hf : n = M
    · have HE : Hid (layA s k = (0, false, 13) ∧ layS s k (.string x) = s) := lay_stale hat.out ⟨HU.out, by rw [HN.out, HM.out]; exact hf⟩
      subst hf
      go_wp2_with fail
      go_quiet (fail)
      go_wp2_with fail
      go_ret3
      rw [HE.out.1, HE.out.2, HN.out]
      exact ⟨rfl, _, R1.out.drewN _, C1.out.drewN _⟩
    · have d3 : decide ((n : Int) = (M : Int)) = false := by simp; omega
      have d4 : ((n : Int) == (M : Int)) = false := by simp; omega
      have d4' : ¬ ((n : Int) = (M : Int)) := by omega
      have hfi : n < M := by omega
      go_wp2_with fail
      go_quiet (fail)
      have R6 : Hid (RngV 77 (w1.drewN nq) B R (.slice ao n cap) s) := R1.out.drewN nq
      have C6 : Hid (Chg B R (.slice ao n cap) (.slice ao n cap) w (w1.drewN nq)) := C1.out.drewN nq
      have hR6 : R < (World.heap (w1.drewN nq)).size := hR1
      clear R1 C1 c0 c1
      generalize (w1.drewN nq) = w6 at R6 C6 hR6 ⊢
      have c0 := R6.out.blk.cell 0 _ rfl
      have c1 := R6.out.blk.cell 1 _ rfl
      obtain ⟨W2, hW2⟩ : ∃ W2, w6.alloc (.cells #[.int .i64 k, .string x] 77) = W2 := ⟨_, rfl⟩
      obtain ⟨_, x2, x3, x4⟩ := boxA hW2
      have C2 : Hid (Chg B R (.slice ao n cap) (.slice ao n cap) w W2) := C6.out.trans (Chg.of_below x2 (by omega))
      have O2 := R6.out.own.below x2
      have B2 := R6.out.blk.low x2 hR6
      have hvb : some w6.heap.size ≠ (Value.slice ao n cap).ownBlock := fun e => by
        have := (R6.out.own.lt w6.heap.size e.symm).2
        omega
      have hB2 : B ≤ W2.heap.size := by omega
      obtain ⟨V, hV⟩ : ∃ V, w6.heap.size = V := ⟨_, rfl⟩
      rw [hV] at x4 hvb
      have HI : Hid (Calls Try.prog 31 #[.slice ao n cap, .int .i64 ((0 : Nat) : Int), .slice (some ⟨V, 0, none⟩) 1 1] W2 fun e w' => ∃ v', e = .returned v' ∧ OwnP 77 w' B v' (laid s.L k (.string x)) ∧ Grow B (.slice ao n cap) W2 v' w') := by
        have := ins_anyS W2 B hB2 (.slice ao n cap) s.L O2 R6.out.ones (by rw [HN.out]; omega) (0) (by rw [HN.out]; omega) (k, .string x) rfl V x4 hvb
        unfold laid
        rw [HU.out]
        exact this
      clear x2 x3 x4 O2 hvb
      have HB2 : Hid (Blk W2 R _) := B2
      clear B2
      go_wp2_with fail
      refine HI.out.mono ?_; rintro e w3 ⟨v3, rfl, o3, g3⟩
      have g3c := Chg.of_grow (R := R) g3
      have hne3 : some R ≠ v3.ownBlock := g3c.off HB2.out.lt R6.out.ne
      have B3 : Blk w3 R _ := HB2.out.grwn g3.by_ R6.out.ne
      have C3 : Hid (Chg B R (.slice ao n cap) v3 w w3) := C2.out.trans g3c
      obtain ⟨ao3, cap3, rfl, _, _, _⟩ := o3.form
      rw [laid_len, HN.out] at o3 hne3 C3 ⊢
      have O3 : Hid (OwnP 77 w3 B (.slice ao3 (n + 1) cap3) (laid s.L k (.string x))) := o3
      have HC3 : Hid (Chg B R (.slice ao n cap) (.slice ao3 (n + 1) cap3) w w3) := C3.out
      have hne3' : Hid (some R ≠ (Value.slice ao3 (n + 1) cap3).ownBlock) := hne3
      clear o3 g3 g3c C2 C3 HI hW2 hB2 c0 c1 hne3
      have f1 := B3.froz 1
      have c1 := B3.cell 1 _ rfl
      obtain ⟨W4, hW4⟩ : ∃ W4, w3.setCell ⟨R, 1, none⟩ (.slice ao3 (n + 1) cap3) = W4 := ⟨_, rfl⟩
      have B4 : Blk W4 R [.int .i64 (s.M : Nat), .slice ao3 (n + 1) cap3, .int .i64 s.F, .bool s.G] := by rw [← hW4]; exact B3.set 1 _ (by simp)
      have O4 : Hid (OwnP 77 W4 B (.slice ao3 (n + 1) cap3) (laid s.L k (.string x))) := by
        rw [← hW4]
        exact O3.out.kept (grown_set w3 R 1 _) (by
          cases hq : (Value.slice ao3 (n + 1) cap3).ownBlock with
          | none => exact Or.inl rfl
          | some q => exact Or.inr (fun e => hne3'.out (by rw [hq]; exact e.symm)))
      have C4 : Hid (Chg B R (.slice ao n cap) (.slice ao3 (n + 1) cap3) w W4) := by rw [← hW4]; exact HC3.out.trans (Chg.set hBR)
      have HB4 : Hid (Blk W4 R [.int .i64 (s.M : Nat), .slice ao3 (n + 1) cap3, .int .i64 s.F, .bool s.G]) := B4
      have x0 := B4.cell 0 _ rfl
      have x1 := B4.cell 1 _ rfl
      rw [HM.out] at x0
      have hz0 : IntKind.i64.wrap ((n : Int) + 1) = (n : Int) + 1 := by rw [IntKind.wrap_i64]; omega
      clear B4 HB2 O3 HC3 B3
      have HE : Hid (layA s k = (0, false, 0) ∧ layS s k (.string x) = { s with L := laid s.L k (.string x) }) := lay_fit hat.out (by rw [HN.out, HM.out]; exact hfi)
      have d5 : decide ((n : Int) + 1 ≤ (M : Int)) = true := by simp; omega
      have d6 : n + 1 ≤ M := by omega
      go_wp2_with fail
      go_quiet (fail)
      go_wp2_with fail
      go_ret3
      rw [HE.out.1, HN.out]
      refine ⟨rfl, _, RngV.drewN ?_ _, C4.out.drewN _⟩
      have ok := lay_ok R6.out.ok hk (.string x)
      rw [HE.out.2] at ok ⊢
      exact ⟨HB4.out, O4.out, ok, R6.out.ones.laid k rfl, hne3'.out, hBR⟩
  · have HU : Hid (untl s.L k = j + 1) := hu
    have hj : j < n := by have := untl_le s.L k; have := HN.out; omega
    obtain ⟨g, hg⟩ : ∃ g, ao = some ⟨g, 0, none⟩ := by
      have hL : s.L ≠ [] := by intro h; have := HN.out; rw [h] at this; simp at this; omega
      obtain ⟨g, _, _, hv, _⟩ := R1.out.own.some_ hL
      injection hv with hv _ _
      exact ⟨g, hv⟩
    subst hg
    have k0 := R1.out.own.key rfl (i := j) (by rw [HN.out]; exact hj)
    have hat0 : isAt s.L k = decide (keyAt s.L j = k) := by simp [isAt, hu]
    have HT : Hid (isAt s.L k = decide (keyAt s.L j = k)) := hat0
    clear hat0 hu
    obtain ⟨kk, hkk⟩ : ∃ x, keyAt s.L j = x := ⟨_, rfl⟩
    rw [hkk] at k0 HT
    clear hkk
    by_cases he : kk = k
    · subst he
      have HE : Hid (layA s kk = (0, false, 12) ∧ layS s kk (.string x) = s) := lay_dup (by rw [HT.out]; simp)
      clear HT
      go_wp2_with fail
      go_ret3
      rw [HE.out.1, HE.out.2, HN.out]
      exact ⟨rfl, _, R1.out, C1.out⟩
    · have hat : Hid (isAt s.L k = false) := by show isAt s.L k = false; rw [HT.out]; simpa using he
      clear HT
      have d2 : (kk == k) = false := by simpa using he
      have hd2 : decide (kk = k) = false := by simpa using he
      have hj1 : ¬ ((j : Int) + 1 = 0) := by omega
      go_wp2_with fail
      refine wp_region_any (by kernel_rfl) ?_
      change wpAny _ _ _ _ _ _ _ (World.drew _)
      refine take_to (i := 0) (d := some 32) (v := (.int .i64 ((j : Int) + 1))) rfl rfl (by kernel_rfl) (by kernel_rfl) (by kernel_rfl) (fun _ _ _ h => h) (Or.inl ⟨by rfl, fun w => by go_simp⟩) ?_
      simp only [Act.put, List.setIfInBounds_toArray, List.set_cons_zero, List.set_cons_succ]
      refine take_to (i := 1) (d := some 33) (v := (.bool false)) rfl rfl (by kernel_rfl) (by kernel_rfl) (by kernel_rfl) (fun _ _ _ h => h) (Or.inl ⟨by rfl, fun w => by go_simp⟩) ?_
      simp only [Act.put, List.setIfInBounds_toArray, List.set_cons_zero, List.set_cons_succ]
      refine take_to (i := 2) (d := some 34) (v := (.bool false)) rfl rfl (by kernel_rfl) (by kernel_rfl) (by kernel_rfl) (fun _ _ _ h => h) (Or.inl ⟨by rfl, fun w => by go_simp⟩) ?_
      simp only [Act.put, List.setIfInBounds_toArray, List.set_cons_zero, List.set_cons_succ]
      refine take_to (i := 3) (d := some 35) (v := undef) rfl rfl (by kernel_rfl) (by kernel_rfl) (by kernel_rfl) (fun _ _ _ h => h) (Or.inr ⟨by rfl, rfl⟩) ?_
      simp only [Act.put, List.setIfInBounds_toArray, List.set_cons_zero, List.set_cons_succ]
      refine take_to (i := 4) (d := some 36) (v := undef) rfl rfl (by kernel_rfl) (by kernel_rfl) (by kernel_rfl) (fun _ _ _ h => h) (Or.inr ⟨by rfl, rfl⟩) ?_
      simp only [Act.put, List.setIfInBounds_toArray, List.set_cons_zero, List.set_cons_succ]
      refine take_to (i := 5) (d := some 37) (v := undef) rfl rfl (by kernel_rfl) (by kernel_rfl) (by kernel_rfl) (fun _ _ _ h => h) (Or.inr ⟨by rfl, rfl⟩) ?_
      simp only [Act.put, List.setIfInBounds_toArray, List.set_cons_zero, List.set_cons_succ]
      refine take_to (i := 6) (d := some 38) (v := undef) rfl rfl (by kernel_rfl) (by kernel_rfl) (by kernel_rfl) (fun _ _ _ h => h) (Or.inr ⟨by rfl, rfl⟩) ?_
      simp only [Act.put, List.setIfInBounds_toArray, List.set_cons_zero, List.set_cons_succ]
      refine take_to (i := 7) (d := some 39) (v := undef) rfl rfl (by kernel_rfl) (by kernel_rfl) (by kernel_rfl) (fun _ _ _ h => h) (Or.inr ⟨by rfl, rfl⟩) ?_
      simp only [Act.put, List.setIfInBounds_toArray, List.set_cons_zero, List.set_cons_succ]
      refine take_to (i := 8) (d := some 40) (v := undef) rfl rfl (by kernel_rfl) (by kernel_rfl) (by kernel_rfl) (fun _ _ _ h => h) (Or.inr ⟨by rfl, rfl⟩) ?_
      simp only [Act.put, List.setIfInBounds_toArray, List.set_cons_zero, List.set_cons_succ]
      refine take_to (i := 9) (d := some 41) (v := undef) rfl rfl (by kernel_rfl) (by kernel_rfl) (by kernel_rfl) (fun _ _ _ h => h) (Or.inr ⟨by rfl, rfl⟩) ?_
      simp only [Act.put, List.setIfInBounds_toArray, List.set_cons_zero, List.set_cons_succ]
      refine take_to (i := 10) (d := some 42) (v := undef) rfl rfl (by kernel_rfl) (by kernel_rfl) (by kernel_rfl) (fun _ _ _ h => h) (Or.inr ⟨by rfl, rfl⟩) ?_
      simp only [Act.put, List.setIfInBounds_toArray, List.set_cons_zero, List.set_cons_succ]
      refine take_to (i := 11) (d := some 43) (v := undef) rfl rfl (by kernel_rfl) (by kernel_rfl) (by kernel_rfl) (fun _ _ _ h => h) (Or.inr ⟨by rfl, rfl⟩) ?_
      simp only [Act.put, List.setIfInBounds_toArray, List.set_cons_zero, List.set_cons_succ]
      refine take_to (i := 12) (d := some 44) (v := undef) rfl rfl (by kernel_rfl) (by kernel_rfl) (by kernel_rfl) (fun _ _ _ h => h) (Or.inr ⟨by rfl, rfl⟩) ?_
      simp only [Act.put, List.setIfInBounds_toArray, List.set_cons_zero, List.set_cons_succ]
      refine take_to (i := 13) (d := some 45) (v := (.bool false)) rfl rfl (by kernel_rfl) (by kernel_rfl) (by kernel_rfl) (fun _ _ _ h => h) (Or.inl ⟨by rfl, fun w => by go_simp⟩) ?_
      simp only [Act.put, List.setIfInBounds_toArray, List.set_cons_zero, List.set_cons_succ]
      refine take_to (i := 14) (d := some 31) (v := (.bool false)) rfl rfl (by kernel_rfl) (by kernel_rfl) (by kernel_rfl) (fun _ _ _ h => h) (Or.inl ⟨by rfl, fun w => by go_simp⟩) ?_
      simp only [Act.put, List.setIfInBounds_toArray, List.set_cons_zero, List.set_cons_succ]
      refine wpAny_done (by kernel_rfl) ?_ _
      have R6 : Hid (RngV 77 w1.drew B R (.slice (some ⟨g, 0, none⟩) n cap) s) := R1.out.drew
      have C6 : Hid (Chg B R (.slice (some ⟨g, 0, none⟩) n cap) (.slice (some ⟨g, 0, none⟩) n cap) w w1.drew) := C1.out.drew
      have hR6 : R < (World.heap w1.drew).size := hR1
      clear R1 C1 c0 c1
      generalize w1.drew = w6 at R6 C6 hR6 ⊢
      have c0 := R6.out.blk.cell 0 _ rfl
      have c1 := R6.out.blk.cell 1 _ rfl
      obtain ⟨W2, hW2⟩ : ∃ W2, w6.alloc (.cells #[.int .i64 k, .string x] 77) = W2 := ⟨_, rfl⟩
      obtain ⟨_, x2, x3, x4⟩ := boxA hW2
      have C2 : Hid (Chg B R (.slice (some ⟨g, 0, none⟩) n cap) (.slice (some ⟨g, 0, none⟩) n cap) w W2) := C6.out.trans (Chg.of_below x2 (by omega))
      have O2 := R6.out.own.below x2
      have B2 := R6.out.blk.low x2 hR6
      have hvb : some w6.heap.size ≠ (Value.slice (some ⟨g, 0, none⟩) n cap).ownBlock := fun e => by
        have := (R6.out.own.lt w6.heap.size e.symm).2
        omega
      have hB2 : B ≤ W2.heap.size := by omega
      obtain ⟨V, hV⟩ : ∃ V, w6.heap.size = V := ⟨_, rfl⟩
      rw [hV] at x4 hvb
      have HI : Hid (Calls Try.prog 31 #[.slice (some ⟨g, 0, none⟩) n cap, .int .i64 ((j + 1 : Nat) : Int), .slice (some ⟨V, 0, none⟩) 1 1] W2 fun e w' => ∃ v', e = .returned v' ∧ OwnP 77 w' B v' (laid s.L k (.string x)) ∧ Grow B (.slice (some ⟨g, 0, none⟩) n cap) W2 v' w') := by
        have := ins_anyS W2 B hB2 (.slice (some ⟨g, 0, none⟩) n cap) s.L O2 R6.out.ones (by rw [HN.out]; omega) (j + 1) (by rw [HN.out]; omega) (k, .string x) rfl V x4 hvb
        unfold laid
        rw [HU.out]
        exact this
      clear x2 x3 x4 O2 hvb
      have HB2 : Hid (Blk W2 R _) := B2
      clear B2
      go_wp2_with fail
      refine HI.out.mono ?_; rintro e w3 ⟨v3, rfl, o3, g3⟩
      have g3c := Chg.of_grow (R := R) g3
      have hne3 : some R ≠ v3.ownBlock := g3c.off HB2.out.lt R6.out.ne
      have B3 : Blk w3 R _ := HB2.out.grwn g3.by_ R6.out.ne
      have C3 : Hid (Chg B R (.slice (some ⟨g, 0, none⟩) n cap) v3 w w3) := C2.out.trans g3c
      obtain ⟨ao3, cap3, rfl, _, _, _⟩ := o3.form
      rw [laid_len, HN.out] at o3 hne3 C3 ⊢
      have O3 : Hid (OwnP 77 w3 B (.slice ao3 (n + 1) cap3) (laid s.L k (.string x))) := o3
      have HC3 : Hid (Chg B R (.slice (some ⟨g, 0, none⟩) n cap) (.slice ao3 (n + 1) cap3) w w3) := C3.out
      have hne3' : Hid (some R ≠ (Value.slice ao3 (n + 1) cap3).ownBlock) := hne3
      clear o3 g3 g3c C2 C3 HI hW2 hB2 c0 c1 hne3
      have f1 := B3.froz 1
      have c1 := B3.cell 1 _ rfl
      obtain ⟨W4, hW4⟩ : ∃ W4, w3.setCell ⟨R, 1, none⟩ (.slice ao3 (n + 1) cap3) = W4 := ⟨_, rfl⟩
      have B4 : Blk W4 R [.int .i64 (s.M : Nat), .slice ao3 (n + 1) cap3, .int .i64 s.F, .bool s.G] := by rw [← hW4]; exact B3.set 1 _ (by simp)
      have O4 : Hid (OwnP 77 W4 B (.slice ao3 (n + 1) cap3) (laid s.L k (.string x))) := by
        rw [← hW4]
        exact O3.out.kept (grown_set w3 R 1 _) (by
          cases hq : (Value.slice ao3 (n + 1) cap3).ownBlock with
          | none => exact Or.inl rfl
          | some q => exact Or.inr (fun e => hne3'.out (by rw [hq]; exact e.symm)))
      have C4 : Hid (Chg B R (.slice (some ⟨g, 0, none⟩) n cap) (.slice ao3 (n + 1) cap3) w W4) := by rw [← hW4]; exact HC3.out.trans (Chg.set hBR)
      have HB4 : Hid (Blk W4 R [.int .i64 (s.M : Nat), .slice ao3 (n + 1) cap3, .int .i64 s.F, .bool s.G]) := B4
      have x0 := B4.cell 0 _ rfl
      have x1 := B4.cell 1 _ rfl
      rw [HM.out] at x0
      have hz0 : IntKind.i64.wrap ((n : Int) + 1) = (n : Int) + 1 := by rw [IntKind.wrap_i64]; omega
      clear B4 HB2 O3 HC3 B3
      by_cases hfi : n < M
      · have HE : Hid (layA s k = (0, false, 0) ∧ layS s k (.string x) = { s with L := laid s.L k (.string x) }) := lay_fit hat.out (by rw [HN.out, HM.out]; exact hfi)
        have d5 : decide ((n : Int) + 1 ≤ (M : Int)) = true := by simp; omega
        have d6 : n + 1 ≤ M := by omega
        go_wp2_with fail
        go_quiet (fail)
        go_wp2_with fail
        go_ret3
        rw [HE.out.1, HN.out]
        refine ⟨rfl, _, RngV.drewN ?_ _, C4.out.drewN _⟩
        have ok := lay_ok R6.out.ok hk (.string x)
        rw [HE.out.2] at ok ⊢
        exact ⟨HB4.out, O4.out, ok, R6.out.ones.laid k rfl, hne3'.out, hBR⟩
      · have HE : Hid (layA s k = (keyAt (laid s.L k (.string x)) 0, true, 0) ∧ layS s k (.string x) = { s with L := (laid s.L k (.string x)).tail, F := keyAt (laid s.L k (.string x)) 0, G := true }) := lay_full hat.out (by rw [HU.out]; simp) (by rw [HN.out, HM.out]; omega)
        have d5 : decide ((n : Int) + 1 ≤ (M : Int)) = false := by simp; omega
        have d6 : ¬ (n + 1 ≤ M) := by omega
        go_wp2_with fail
        go_quiet (fail)
        have HB5 : Hid (Blk (W4.drewN nq) R [.int .i64 (s.M : Nat), .slice ao3 (n + 1) cap3, .int .i64 s.F, .bool s.G]) := ⟨HB4.out.lt, HB4.out.all, HB4.out.froz⟩
        have O5 : Hid (OwnP 77 (W4.drewN nq) B (.slice ao3 (n + 1) cap3) (laid s.L k (.string x))) := O4.out
        have C5 : Hid (Chg B R (.slice (some ⟨g, 0, none⟩) n cap) (.slice ao3 (n + 1) cap3) w (W4.drewN nq)) := C4.out.drewN nq
        clear HB4 O4 C4 x0 x1 hW4
        generalize W4.drewN nq = W5 at HB5 O5 C5 ⊢
        go_wp2_with fail
        refine (drop_anyS W5 B R s.M s.F s.G _ _ HB5.out O5.out (R6.out.ones.laid k rfl) n (by rw [laid_len, HN.out]) (by rw [laid_len, HN.out]; omega) hne3'.out hBR).mono ?_; rintro e w5 ⟨rfl, v5, b5, o5, n5, c5⟩
        have HR5 : Hid (Blk w5 R _ ∧ OwnP 77 w5 B v5 _ ∧ some R ≠ v5.ownBlock ∧ Chg B R _ v5 W5 w5) := ⟨b5, o5, n5, c5⟩
        clear b5 o5 n5 c5
        go_wp2_with fail
        go_ret3
        rw [HE.out.1, HN.out]
        refine ⟨rfl, v5, ?_, C5.out.trans HR5.out.2.2.2⟩
        have ok := lay_ok R6.out.ok hk (.string x)
        rw [HE.out.2] at ok ⊢
        exact ⟨HR5.out.1, HR5.out.2.1, ok, (R6.out.ones.laid k rfl).tail, HR5.out.2.2.1, hBR⟩
set_option maxHeartbeats 4000000 in
/-- slices.Insert of one pair, wherever. -/
theorem ins_anyI (w : World) (B : Nat) (hB : B ≤ w.heap.size) (v : Value) (L : List Pr) (hown : OwnP 86 w B v L) (hones : Ones L) (hl : L.length ≤ 1000) (i : Nat) (hi : i ≤ L.length) (p : Pr) (hx : p.2.oneCell' = true) (vb : Nat)
    (hvb : w.heap[vb]? = some (.cells #[.int .i64 p.1, p.2] 86 (0, 0))) (hne : some vb ≠ v.ownBlock) :
    Calls Try.prog 36 #[v, .int .i64 (i : Nat), .slice (some ⟨vb, 0, none⟩) 1 1] w fun e w' => ∃ v', e = .returned v' ∧ OwnP 86 w' B v' (L.take i ++ p :: L.drop i) ∧ Grow B v w v' w' := by
  rcases Nat.lt_or_ge i L.length with h | h
  · have hL : L ≠ [] := by intro h'; rw [h'] at h; simp at h
    obtain ⟨g, cap, cur, rfl, hBg, hg, hc, hm, hcs, htk⟩ := hown.some_ hL
    rcases Nat.lt_or_ge cap (L.length + 1) with hr | hr
    · exact ins_growI w B hB L hones g cap cur hg hcs htk hl i h hc hr p hx vb hvb
    · refine (ins_roomI w B L hones g cap cur hg hBg hcs htk hl i h hr hm p hx vb hvb (fun e => hne (by rw [e]; rfl))).mono ?_
      rintro e w' ⟨rfl, o1, g1⟩
      exact ⟨_, rfl, o1, (Below.refl B w).grown g1 hB (fun k hk => by injection hk with hk; omega), g1, Or.inl rfl⟩
  · obtain rfl : i = L.length := by omega
    refine (ins_endI w B hB v L hown hl p hx vb hvb).mono ?_
    rintro e w' ⟨v', rfl, o1, g1⟩
    exact ⟨v', rfl, by rw [List.take_of_length_le (Nat.le_refl _), List.drop_of_length_le (Nat.le_refl _)]; exact o1, g1⟩
set_option maxHeartbeats 4000000 in
/-- drop. -/
theorem drop_anyI (w : World) (B R M : Nat) (F : Int) (G : Bool) (v : Value) (L : List Pr) (hb : Blk w R [.int .i64 (M : Nat), v, .int .i64 F, .bool G]) (hown : OwnP 86 w B v L) (hones : Ones L) (m : Nat) (hn : L.length = m + 1) (hl : L.length ≤ 1000)
    (hne : some R ≠ v.ownBlock) (hB : B ≤ R) :
    Calls Try.prog 37 #[.pointer (some ⟨R, 0, none⟩)] w fun e w' => e = .returned (.int .i64 (keyAt L 0)) ∧ ∃ v', Blk w' R [.int .i64 (M : Nat), v', .int .i64 (keyAt L 0), .bool true] ∧ OwnP 86 w' B v' L.tail ∧ some R ≠ v'.ownBlock ∧ Chg B R v v' w w' := by
  have hL : L ≠ [] := by intro h; rw [h] at hn; simp at hn
  obtain ⟨g, cap, cur, rfl, hBg, _, h1, h2, _, _⟩ := hown.some_ hL
  have k0 := hown.key rfl (i := 0) (by omega)
  rw [Nat.zero_mul] at k0
  obtain ⟨kk, hk⟩ : ∃ x, keyAt L 0 = x := ⟨_, rfl⟩
  rw [hk] at k0 ⊢
  have hgR : g ≠ R := fun e => hne (by rw [e]; rfl)
  have HO : Hid (OwnP 86 w B (.slice (some ⟨g, 0, none⟩) (m + 1) cap) L) := by rw [hn] at hown; exact hown
  have HN : Hid (L.length = m + 1) := hn
  rw [hn] at hb h1 hl
  rw [hn]
  have c1 := hb.cell 1 _ rfl
  have c2 := hb.cell 2 _ rfl
  have c3 := hb.cell 3 _ rfl
  have f2 := hb.froz 2
  have f3 := hb.froz 3
  have HB0 : Hid (Blk w R [.int .i64 (M : Nat), .slice (some ⟨g, 0, none⟩) (m + 1) cap, .int .i64 F, .bool G]) := hb
  have hlt := hb.lt
  clear hb hown hn hk hL
  go_enter Try.func37, Try.ntmps37
  go_upto_region 2 with fail
  obtain ⟨W1, hW1⟩ : ∃ W1, ((w.setCell ⟨R, 2, none⟩ (.int .i64 kk)).setCell ⟨R, 3, none⟩ (.bool true)) = W1 := ⟨_, rfl⟩
  have B1 : Blk W1 R [.int .i64 (M : Nat), .slice (some ⟨g, 0, none⟩) (m + 1) cap, .int .i64 kk, .bool true] := by
    rw [← hW1]; exact (HB0.out.set 2 _ (by simp)).set 3 _ (by simp)
  have g1 : Chg B R (.slice (some ⟨g, 0, none⟩) (m + 1) cap) (.slice (some ⟨g, 0, none⟩) (m + 1) cap) w W1 := by
    rw [← hW1]; exact (Chg.set hB).trans (Chg.set hB)
  have O1 : Hid (OwnP 86 W1 B (.slice (some ⟨g, 0, none⟩) (m + 1) cap) L) := by
    have e1 : w.grownBy W1 (some R) := by
      rw [← hW1]
      exact grown_trans (grown_set w R 2 _) (grown_set _ R 3 _)
    exact HO.out.kept e1 (Or.inr (fun e => hne e.symm))
  have G1 : Hid (Chg B R (.slice (some ⟨g, 0, none⟩) (m + 1) cap) (.slice (some ⟨g, 0, none⟩) (m + 1) cap) w W1) := g1
  rw [hW1]
  clear hW1 c1 c2 c3 f2 f3 HB0 HO k0 g1
  have c1 := B1.cell 1 _ rfl
  go_wp2_with fail
  refine (del_oneI W1 B L hones m HN.out g cap O1.out (by rw [HN.out]; exact hl)).mono ?_; rintro e w2 ⟨rfl, o2, g2⟩
  have cg2 : Hid (Chg B R (.slice (some ⟨g, 0, none⟩) (m + 1) cap) (.slice (some ⟨g, 0, none⟩) m cap) W1 w2) :=
    Chg.of_grown g2 rfl (Nat.le_trans hB (Nat.le_of_lt B1.lt)) (fun k hk => by
      have hk' : some g = some k := hk
      injection hk' with hk'; omega)
  have O2 : Hid (OwnP 86 w2 B (.slice (some ⟨g, 0, none⟩) m cap) L.tail) := o2
  have B2 := B1.grwn g2 (fun e => by injection e with e; exact hgR e.symm)
  clear c1 o2 g2 B1 O1
  have c1 := B2.cell 1 _ rfl
  have c2 := B2.cell 2 _ rfl
  have f1 := B2.froz 1
  obtain ⟨W3, hW3⟩ : ∃ W3, w2.setCell ⟨R, 1, none⟩ (.slice (some ⟨g, 0, none⟩) m cap) = W3 := ⟨_, rfl⟩
  have B3 : Blk W3 R [.int .i64 (M : Nat), .slice (some ⟨g, 0, none⟩) m cap, .int .i64 kk, .bool true] := by rw [← hW3]; exact B2.set 1 _ (by simp)
  have O3 : Hid (OwnP 86 W3 B (.slice (some ⟨g, 0, none⟩) m cap) L.tail) := by
    rw [← hW3]; exact O2.out.kept (grown_set w2 R 1 _) (Or.inr (fun e => hgR (by injection e)))
  have G3 : Hid (Chg B R (.slice (some ⟨g, 0, none⟩) (m + 1) cap) (.slice (some ⟨g, 0, none⟩) m cap) w W3) := by
    refine (G1.out.trans cg2.out).trans ?_
    rw [← hW3]; exact Chg.set hB
  clear B2 O2 G1 cg2
  have c3 := B3.cell 2 _ rfl
  go_wp2_with fail
  go_ret
  exact ⟨rfl, _, B3, O3.out, hne, G3.out⟩
set_option maxHeartbeats 8000000 in
/-- Lay. -/
theorem lay_anyI (w : World) (B R : Nat) (v : Value) (s : Rs) (h : RngV 86 w B R v s) (k : Int) (hk : -9223372036854775808 ≤ k ∧ k ≤ 9223372036854775807) (x : Int) :
    Calls Try.prog 22 #[.pointer (some ⟨R, 0, none⟩), .int .i64 k, .int .i64 x] w fun e w' => e = .returned (.tuple #[.int .i64 (layA s k).1, .bool (layA s k).2.1, .int .i64 (layA s k).2.2]) ∧ ∃ v', RngV 86 w' B R v' (layS s k (.int .i64 x)) ∧ Chg B R v v' w w' := by
  have H0 : Hid (RngV 86 w B R v s) := h
  have hBR := h.le
  have hRw := h.blk.lt
  have hlen := h.ok.len
  have hmost := h.ok.most
  clear h
  go_enter Try.func22, Try.ntmps22
  go_wp2_with fail
  refine (until_anyI w B R v s H0.out k).mono ?_; rintro e w1 ⟨rfl, b1⟩
  have C1 : Hid (Chg B R v v w w1) := Chg.of_below b1 (by omega)
  have R1 : Hid (RngV 86 w1 B R v s) := H0.out.below b1
  have hR1 := R1.out.blk.lt
  clear H0 b1
  obtain ⟨ao, cap, rfl, e1, e2, _⟩ := R1.out.own.form
  have c0 := R1.out.blk.cell 0 _ rfl
  have c1 := R1.out.blk.cell 1 _ rfl
  obtain ⟨n, hn⟩ : ∃ n, s.L.length = n := ⟨_, rfl⟩
  have HN : Hid (s.L.length = n) := hn
  obtain ⟨M, hM⟩ : ∃ M, s.M = M := ⟨_, rfl⟩
  have HM : Hid (s.M = M) := hM
  rw [hn] at c1 hlen e1 R1 C1
  rw [hM] at c0 hlen hmost
  clear hn hM
  rcases hu : untl s.L k with _ | j
  · have HU : Hid (untl s.L k = 0) := hu
    have hat : Hid (isAt s.L k = false) := by show isAt s.L k = false; simp [isAt, hu]
    clear hu
    by_cases hf : n = M
    · have HE : Hid (layA s k = (0, false, 13) ∧ layS s k (.int .i64 x) = s) := lay_stale hat.out ⟨HU.out, by rw [HN.out, HM.out]; exact hf⟩
      subst hf
      go_wp2_with fail
      go_quiet (fail)
      go_wp2_with fail
      go_ret3
      rw [HE.out.1, HE.out.2, HN.out]
      exact ⟨rfl, _, R1.out.drewN _, C1.out.drewN _⟩
    · have d3 : decide ((n : Int) = (M : Int)) = false := by simp; omega
      have d4 : ((n : Int) == (M : Int)) = false := by simp; omega
      have d4' : ¬ ((n : Int) = (M : Int)) := by omega
      have hfi : n < M := by omega
      go_wp2_with fail
      go_quiet (fail)
      have R6 : Hid (RngV 86 (w1.drewN nq) B R (.slice ao n cap) s) := R1.out.drewN nq
      have C6 : Hid (Chg B R (.slice ao n cap) (.slice ao n cap) w (w1.drewN nq)) := C1.out.drewN nq
      have hR6 : R < (World.heap (w1.drewN nq)).size := hR1
      clear R1 C1 c0 c1
      generalize (w1.drewN nq) = w6 at R6 C6 hR6 ⊢
      have c0 := R6.out.blk.cell 0 _ rfl
      have c1 := R6.out.blk.cell 1 _ rfl
      obtain ⟨W2, hW2⟩ : ∃ W2, w6.alloc (.cells #[.int .i64 k, .int .i64 x] 86) = W2 := ⟨_, rfl⟩
      obtain ⟨_, x2, x3, x4⟩ := boxA hW2
      have C2 : Hid (Chg B R (.slice ao n cap) (.slice ao n cap) w W2) := C6.out.trans (Chg.of_below x2 (by omega))
      have O2 := R6.out.own.below x2
      have B2 := R6.out.blk.low x2 hR6
      have hvb : some w6.heap.size ≠ (Value.slice ao n cap).ownBlock := fun e => by
        have := (R6.out.own.lt w6.heap.size e.symm).2
        omega
      have hB2 : B ≤ W2.heap.size := by omega
      obtain ⟨V, hV⟩ : ∃ V, w6.heap.size = V := ⟨_, rfl⟩
      rw [hV] at x4 hvb
      have HI : Hid (Calls Try.prog 36 #[.slice ao n cap, .int .i64 ((0 : Nat) : Int), .slice (some ⟨V, 0, none⟩) 1 1] W2 fun e w' => ∃ v', e = .returned v' ∧ OwnP 86 w' B v' (laid s.L k (.int .i64 x)) ∧ Grow B (.slice ao n cap) W2 v' w') := by
        have := ins_anyI W2 B hB2 (.slice ao n cap) s.L O2 R6.out.ones (by rw [HN.out]; omega) (0) (by rw [HN.out]; omega) (k, .int .i64 x) rfl V x4 hvb
        unfold laid
        rw [HU.out]
        exact this
      clear x2 x3 x4 O2 hvb
      have HB2 : Hid (Blk W2 R _) := B2
      clear B2
      go_wp2_with fail
      refine HI.out.mono ?_; rintro e w3 ⟨v3, rfl, o3, g3⟩
      have g3c := Chg.of_grow (R := R) g3
      have hne3 : some R ≠ v3.ownBlock := g3c.off HB2.out.lt R6.out.ne
      have B3 : Blk w3 R _ := HB2.out.grwn g3.by_ R6.out.ne
      have C3 : Hid (Chg B R (.slice ao n cap) v3 w w3) := C2.out.trans g3c
      obtain ⟨ao3, cap3, rfl, _, _, _⟩ := o3.form
      rw [laid_len, HN.out] at o3 hne3 C3 ⊢
      have O3 : Hid (OwnP 86 w3 B (.slice ao3 (n + 1) cap3) (laid s.L k (.int .i64 x))) := o3
      have HC3 : Hid (Chg B R (.slice ao n cap) (.slice ao3 (n + 1) cap3) w w3) := C3.out
      have hne3' : Hid (some R ≠ (Value.slice ao3 (n + 1) cap3).ownBlock) := hne3
      clear o3 g3 g3c C2 C3 HI hW2 hB2 c0 c1 hne3
      have f1 := B3.froz 1
      have c1 := B3.cell 1 _ rfl
      obtain ⟨W4, hW4⟩ : ∃ W4, w3.setCell ⟨R, 1, none⟩ (.slice ao3 (n + 1) cap3) = W4 := ⟨_, rfl⟩
      have B4 : Blk W4 R [.int .i64 (s.M : Nat), .slice ao3 (n + 1) cap3, .int .i64 s.F, .bool s.G] := by rw [← hW4]; exact B3.set 1 _ (by simp)
      have O4 : Hid (OwnP 86 W4 B (.slice ao3 (n + 1) cap3) (laid s.L k (.int .i64 x))) := by
        rw [← hW4]
        exact O3.out.kept (grown_set w3 R 1 _) (by
          cases hq : (Value.slice ao3 (n + 1) cap3).ownBlock with
          | none => exact Or.inl rfl
          | some q => exact Or.inr (fun e => hne3'.out (by rw [hq]; exact e.symm)))
      have C4 : Hid (Chg B R (.slice ao n cap) (.slice ao3 (n + 1) cap3) w W4) := by rw [← hW4]; exact HC3.out.trans (Chg.set hBR)
      have HB4 : Hid (Blk W4 R [.int .i64 (s.M : Nat), .slice ao3 (n + 1) cap3, .int .i64 s.F, .bool s.G]) := B4
      have x0 := B4.cell 0 _ rfl
      have x1 := B4.cell 1 _ rfl
      rw [HM.out] at x0
      have hz0 : IntKind.i64.wrap ((n : Int) + 1) = (n : Int) + 1 := by rw [IntKind.wrap_i64]; omega
      clear B4 HB2 O3 HC3 B3
      have HE : Hid (layA s k = (0, false, 0) ∧ layS s k (.int .i64 x) = { s with L := laid s.L k (.int .i64 x) }) := lay_fit hat.out (by rw [HN.out, HM.out]; exact hfi)
      have d5 : decide ((n : Int) + 1 ≤ (M : Int)) = true := by simp; omega
      have d6 : n + 1 ≤ M := by omega
      go_wp2_with fail
      go_quiet (fail)
      go_wp2_with fail
      go_ret3
      rw [HE.out.1, HN.out]
      refine ⟨rfl, _, RngV.drewN ?_ _, C4.out.drewN _⟩
      have ok := lay_ok R6.out.ok hk (.int .i64 x)
      rw [HE.out.2] at ok ⊢
      exact ⟨HB4.out, O4.out, ok, R6.out.ones.laid k rfl, hne3'.out, hBR⟩
  · have HU : Hid (untl s.L k = j + 1) := hu
    have hj : j < n := by have := untl_le s.L k; have := HN.out; omega
    obtain ⟨g, hg⟩ : ∃ g, ao = some ⟨g, 0, none⟩ := by
      have hL : s.L ≠ [] := by intro h; have := HN.out; rw [h] at this; simp at this; omega
      obtain ⟨g, _, _, hv, _⟩ := R1.out.own.some_ hL
      injection hv with hv _ _
      exact ⟨g, hv⟩
    subst hg
    have k0 := R1.out.own.key rfl (i := j) (by rw [HN.out]; exact hj)
    have hat0 : isAt s.L k = decide (keyAt s.L j = k) := by simp [isAt, hu]
    have HT : Hid (isAt s.L k = decide (keyAt s.L j = k)) := hat0
    clear hat0 hu
    obtain ⟨kk, hkk⟩ : ∃ x, keyAt s.L j = x := ⟨_, rfl⟩
    rw [hkk] at k0 HT
    clear hkk
    by_cases he : kk = k
    · subst he
      have HE : Hid (layA s kk = (0, false, 12) ∧ layS s kk (.int .i64 x) = s) := lay_dup (by rw [HT.out]; simp)
      clear HT
      go_wp2_with fail
      go_ret3
      rw [HE.out.1, HE.out.2, HN.out]
      exact ⟨rfl, _, R1.out, C1.out⟩
    · have hat : Hid (isAt s.L k = false) := by show isAt s.L k = false; rw [HT.out]; simpa using he
      clear HT
      have d2 : (kk == k) = false := by simpa using he
      have hd2 : decide (kk = k) = false := by simpa using he
      have hj1 : ¬ ((j : Int) + 1 = 0) := by omega
      go_wp2_with fail
      refine wp_region_any (by kernel_rfl) ?_
      change wpAny _ _ _ _ _ _ _ (World.drew _)
      refine take_to (i := 0) (d := some 32) (v := (.int .i64 ((j : Int) + 1))) rfl rfl (by kernel_rfl) (by kernel_rfl) (by kernel_rfl) (fun _ _ _ h => h) (Or.inl ⟨by rfl, fun w => by go_simp⟩) ?_
      simp only [Act.put, List.setIfInBounds_toArray, List.set_cons_zero, List.set_cons_succ]
      refine take_to (i := 1) (d := some 33) (v := (.bool false)) rfl rfl (by kernel_rfl) (by kernel_rfl) (by kernel_rfl) (fun _ _ _ h => h) (Or.inl ⟨by rfl, fun w => by go_simp⟩) ?_
      simp only [Act.put, List.setIfInBounds_toArray, List.set_cons_zero, List.set_cons_succ]
      refine take_to (i := 2) (d := some 34) (v := (.bool false)) rfl rfl (by kernel_rfl) (by kernel_rfl) (by kernel_rfl) (fun _ _ _ h => h) (Or.inl ⟨by rfl, fun w => by go_simp⟩) ?_
      simp only [Act.put, List.setIfInBounds_toArray, List.set_cons_zero, List.set_cons_succ]
      refine take_to (i := 3) (d := some 35) (v := undef) rfl rfl (by kernel_rfl) (by kernel_rfl) (by kernel_rfl) (fun _ _ _ h => h) (Or.inr ⟨by rfl, rfl⟩) ?_
      simp only [Act.put, List.setIfInBounds_toArray, List.set_cons_zero, List.set_cons_succ]
      refine take_to (i := 4) (d := some 36) (v := undef) rfl rfl (by kernel_rfl) (by kernel_rfl) (by kernel_rfl) (fun _ _ _ h => h) (Or.inr ⟨by rfl, rfl⟩) ?_
      simp only [Act.put, List.setIfInBounds_toArray, List.set_cons_zero, List.set_cons_succ]
      refine take_to (i := 5) (d := some 37) (v := undef) rfl rfl (by kernel_rfl) (by kernel_rfl) (by kernel_rfl) (fun _ _ _ h => h) (Or.inr ⟨by rfl, rfl⟩) ?_
      simp only [Act.put, List.setIfInBounds_toArray, List.set_cons_zero, List.set_cons_succ]
      refine take_to (i := 6) (d := some 38) (v := undef) rfl rfl (by kernel_rfl) (by kernel_rfl) (by kernel_rfl) (fun _ _ _ h => h) (Or.inr ⟨by rfl, rfl⟩) ?_
      simp only [Act.put, List.setIfInBounds_toArray, List.set_cons_zero, List.set_cons_succ]
      refine take_to (i := 7) (d := some 39) (v := undef) rfl rfl (by kernel_rfl) (by kernel_rfl) (by kernel_rfl) (fun _ _ _ h => h) (Or.inr ⟨by rfl, rfl⟩) ?_
      simp only [Act.put, List.setIfInBounds_toArray, List.set_cons_zero, List.set_cons_succ]
      refine take_to (i := 8) (d := some 40) (v := undef) rfl rfl (by kernel_rfl) (by kernel_rfl) (by kernel_rfl) (fun _ _ _ h => h) (Or.inr ⟨by rfl, rfl⟩) ?_
      simp only [Act.put, List.setIfInBounds_toArray, List.set_cons_zero, List.set_cons_succ]
      refine take_to (i := 9) (d := some 41) (v := undef) rfl rfl (by kernel_rfl) (by kernel_rfl) (by kernel_rfl) (fun _ _ _ h => h) (Or.inr ⟨by rfl, rfl⟩) ?_
      simp only [Act.put, List.setIfInBounds_toArray, List.set_cons_zero, List.set_cons_succ]
      refine take_to (i := 10) (d := some 42) (v := undef) rfl rfl (by kernel_rfl) (by kernel_rfl) (by kernel_rfl) (fun _ _ _ h => h) (Or.inr ⟨by rfl, rfl⟩) ?_
      simp only [Act.put, List.setIfInBounds_toArray, List.set_cons_zero, List.set_cons_succ]
      refine take_to (i := 11) (d := some 43) (v := undef) rfl rfl (by kernel_rfl) (by kernel_rfl) (by kernel_rfl) (fun _ _ _ h => h) (Or.inr ⟨by rfl, rfl⟩) ?_
      simp only [Act.put, List.setIfInBounds_toArray, List.set_cons_zero, List.set_cons_succ]
      refine take_to (i := 12) (d := some 44) (v := undef) rfl rfl (by kernel_rfl) (by kernel_rfl) (by kernel_rfl) (fun _ _ _ h => h) (Or.inr ⟨by rfl, rfl⟩) ?_
      simp only [Act.put, List.setIfInBounds_toArray, List.set_cons_zero, List.set_cons_succ]
      refine take_to (i := 13) (d := some 45) (v := (.bool false)) rfl rfl (by kernel_rfl) (by kernel_rfl) (by kernel_rfl) (fun _ _ _ h => h) (Or.inl ⟨by rfl, fun w => by go_simp⟩) ?_
      simp only [Act.put, List.setIfInBounds_toArray, List.set_cons_zero, List.set_cons_succ]
      refine take_to (i := 14) (d := some 31) (v := (.bool false)) rfl rfl (by kernel_rfl) (by kernel_rfl) (by kernel_rfl) (fun _ _ _ h => h) (Or.inl ⟨by rfl, fun w => by go_simp⟩) ?_
      simp only [Act.put, List.setIfInBounds_toArray, List.set_cons_zero, List.set_cons_succ]
      refine wpAny_done (by kernel_rfl) ?_ _
      have R6 : Hid (RngV 86 w1.drew B R (.slice (some ⟨g, 0, none⟩) n cap) s) := R1.out.drew
      have C6 : Hid (Chg B R (.slice (some ⟨g, 0, none⟩) n cap) (.slice (some ⟨g, 0, none⟩) n cap) w w1.drew) := C1.out.drew
      have hR6 : R < (World.heap w1.drew).size := hR1
      clear R1 C1 c0 c1
      generalize w1.drew = w6 at R6 C6 hR6 ⊢
      have c0 := R6.out.blk.cell 0 _ rfl
      have c1 := R6.out.blk.cell 1 _ rfl
      obtain ⟨W2, hW2⟩ : ∃ W2, w6.alloc (.cells #[.int .i64 k, .int .i64 x] 86) = W2 := ⟨_, rfl⟩
      obtain ⟨_, x2, x3, x4⟩ := boxA hW2
      have C2 : Hid (Chg B R (.slice (some ⟨g, 0, none⟩) n cap) (.slice (some ⟨g, 0, none⟩) n cap) w W2) := C6.out.trans (Chg.of_below x2 (by omega))
      have O2 := R6.out.own.below x2
      have B2 := R6.out.blk.low x2 hR6
      have hvb : some w6.heap.size ≠ (Value.slice (some ⟨g, 0, none⟩) n cap).ownBlock := fun e => by
        have := (R6.out.own.lt w6.heap.size e.symm).2
        omega
      have hB2 : B ≤ W2.heap.size := by omega
      obtain ⟨V, hV⟩ : ∃ V, w6.heap.size = V := ⟨_, rfl⟩
      rw [hV] at x4 hvb
      have HI : Hid (Calls Try.prog 36 #[.slice (some ⟨g, 0, none⟩) n cap, .int .i64 ((j + 1 : Nat) : Int), .slice (some ⟨V, 0, none⟩) 1 1] W2 fun e w' => ∃ v', e = .returned v' ∧ OwnP 86 w' B v' (laid s.L k (.int .i64 x)) ∧ Grow B (.slice (some ⟨g, 0, none⟩) n cap) W2 v' w') := by
        have := ins_anyI W2 B hB2 (.slice (some ⟨g, 0, none⟩) n cap) s.L O2 R6.out.ones (by rw [HN.out]; omega) (j + 1) (by rw [HN.out]; omega) (k, .int .i64 x) rfl V x4 hvb
        unfold laid
        rw [HU.out]
        exact this
      clear x2 x3 x4 O2 hvb
      have HB2 : Hid (Blk W2 R _) := B2
      clear B2
      go_wp2_with fail
      refine HI.out.mono ?_; rintro e w3 ⟨v3, rfl, o3, g3⟩
      have g3c := Chg.of_grow (R := R) g3
      have hne3 : some R ≠ v3.ownBlock := g3c.off HB2.out.lt R6.out.ne
      have B3 : Blk w3 R _ := HB2.out.grwn g3.by_ R6.out.ne
      have C3 : Hid (Chg B R (.slice (some ⟨g, 0, none⟩) n cap) v3 w w3) := C2.out.trans g3c
      obtain ⟨ao3, cap3, rfl, _, _, _⟩ := o3.form
      rw [laid_len, HN.out] at o3 hne3 C3 ⊢
      have O3 : Hid (OwnP 86 w3 B (.slice ao3 (n + 1) cap3) (laid s.L k (.int .i64 x))) := o3
      have HC3 : Hid (Chg B R (.slice (some ⟨g, 0, none⟩) n cap) (.slice ao3 (n + 1) cap3) w w3) := C3.out
      have hne3' : Hid (some R ≠ (Value.slice ao3 (n + 1) cap3).ownBlock) := hne3
      clear o3 g3 g3c C2 C3 HI hW2 hB2 c0 c1 hne3
      have f1 := B3.froz 1
      have c1 := B3.cell 1 _ rfl
      obtain ⟨W4, hW4⟩ : ∃ W4, w3.setCell ⟨R, 1, none⟩ (.slice ao3 (n + 1) cap3) = W4 := ⟨_, rfl⟩
      have B4 : Blk W4 R [.int .i64 (s.M : Nat), .slice ao3 (n + 1) cap3, .int .i64 s.F, .bool s.G] := by rw [← hW4]; exact B3.set 1 _ (by simp)
      have O4 : Hid (OwnP 86 W4 B (.slice ao3 (n + 1) cap3) (laid s.L k (.int .i64 x))) := by
        rw [← hW4]
        exact O3.out.kept (grown_set w3 R 1 _) (by
          cases hq : (Value.slice ao3 (n + 1) cap3).ownBlock with
          | none => exact Or.inl rfl
          | some q => exact Or.inr (fun e => hne3'.out (by rw [hq]; exact e.symm)))
      have C4 : Hid (Chg B R (.slice (some ⟨g, 0, none⟩) n cap) (.slice ao3 (n + 1) cap3) w W4) := by rw [← hW4]; exact HC3.out.trans (Chg.set hBR)
      have HB4 : Hid (Blk W4 R [.int .i64 (s.M : Nat), .slice ao3 (n + 1) cap3, .int .i64 s.F, .bool s.G]) := B4
      have x0 := B4.cell 0 _ rfl
      have x1 := B4.cell 1 _ rfl
      rw [HM.out] at x0
      have hz0 : IntKind.i64.wrap ((n : Int) + 1) = (n : Int) + 1 := by rw [IntKind.wrap_i64]; omega
      clear B4 HB2 O3 HC3 B3
      by_cases hfi : n < M
      · have HE : Hid (layA s k = (0, false, 0) ∧ layS s k (.int .i64 x) = { s with L := laid s.L k (.int .i64 x) }) := lay_fit hat.out (by rw [HN.out, HM.out]; exact hfi)
        have d5 : decide ((n : Int) + 1 ≤ (M : Int)) = true := by simp; omega
        have d6 : n + 1 ≤ M := by omega
        go_wp2_with fail
        go_quiet (fail)
        go_wp2_with fail
        go_ret3
        rw [HE.out.1, HN.out]
        refine ⟨rfl, _, RngV.drewN ?_ _, C4.out.drewN _⟩
        have ok := lay_ok R6.out.ok hk (.int .i64 x)
        rw [HE.out.2] at ok ⊢
        exact ⟨HB4.out, O4.out, ok, R6.out.ones.laid k rfl, hne3'.out, hBR⟩
      · have HE : Hid (layA s k = (keyAt (laid s.L k (.int .i64 x)) 0, true, 0) ∧ layS s k (.int .i64 x) = { s with L := (laid s.L k (.int .i64 x)).tail, F := keyAt (laid s.L k (.int .i64 x)) 0, G := true }) := lay_full hat.out (by rw [HU.out]; simp) (by rw [HN.out, HM.out]; omega)
        have d5 : decide ((n : Int) + 1 ≤ (M : Int)) = false := by simp; omega
        have d6 : ¬ (n + 1 ≤ M) := by omega
        go_wp2_with fail
        go_quiet (fail)
        have HB5 : Hid (Blk (W4.drewN nq) R [.int .i64 (s.M : Nat), .slice ao3 (n + 1) cap3, .int .i64 s.F, .bool s.G]) := ⟨HB4.out.lt, HB4.out.all, HB4.out.froz⟩
        have O5 : Hid (OwnP 86 (W4.drewN nq) B (.slice ao3 (n + 1) cap3) (laid s.L k (.int .i64 x))) := O4.out
        have C5 : Hid (Chg B R (.slice (some ⟨g, 0, none⟩) n cap) (.slice ao3 (n + 1) cap3) w (W4.drewN nq)) := C4.out.drewN nq
        clear HB4 O4 C4 x0 x1 hW4
        generalize W4.drewN nq = W5 at HB5 O5 C5 ⊢
        go_wp2_with fail
        refine (drop_anyI W5 B R s.M s.F s.G _ _ HB5.out O5.out (R6.out.ones.laid k rfl) n (by rw [laid_len, HN.out]) (by rw [laid_len, HN.out]; omega) hne3'.out hBR).mono ?_; rintro e w5 ⟨rfl, v5, b5, o5, n5, c5⟩
        have HR5 : Hid (Blk w5 R _ ∧ OwnP 86 w5 B v5 _ ∧ some R ≠ v5.ownBlock ∧ Chg B R _ v5 W5 w5) := ⟨b5, o5, n5, c5⟩
        clear b5 o5 n5 c5
        go_wp2_with fail
        go_ret3
        rw [HE.out.1, HN.out]
        refine ⟨rfl, v5, ?_, C5.out.trans HR5.out.2.2.2⟩
        have ok := lay_ok R6.out.ok hk (.int .i64 x)
        rw [HE.out.2] at ok ⊢
        exact ⟨HR5.out.1, HR5.out.2.1, ok, (R6.out.ones.laid k rfl).tail, HR5.out.2.2.1, hBR⟩
set_option maxHeartbeats 4000000 in
/-- slices.Insert of one pair, wherever. -/
theorem ins_anyJ (w : World) (B : Nat) (hB : B ≤ w.heap.size) (v : Value) (L : List Pr) (hown : OwnP 92 w B v L) (hones : Ones L) (hl : L.length ≤ 1000) (i : Nat) (hi : i ≤ L.length) (p : Pr) (hx : p.2.oneCell' = true) (vb : Nat)
    (hvb : w.heap[vb]? = some (.cells #[.int .i64 p.1, p.2] 92 (0, 0))) (hne : some vb ≠ v.ownBlock) :
    Calls Try.prog 39 #[v, .int .i64 (i : Nat), .slice (some ⟨vb, 0, none⟩) 1 1] w fun e w' => ∃ v', e = .returned v' ∧ OwnP 92 w' B v' (L.take i ++ p :: L.drop i) ∧ Grow B v w v' w' := by
  rcases Nat.lt_or_ge i L.length with h | h
  · have hL : L ≠ [] := by intro h'; rw [h'] at h; simp at h
    obtain ⟨g, cap, cur, rfl, hBg, hg, hc, hm, hcs, htk⟩ := hown.some_ hL
    rcases Nat.lt_or_ge cap (L.length + 1) with hr | hr
    · exact ins_growJ w B hB L hones g cap cur hg hcs htk hl i h hc hr p hx vb hvb
    · refine (ins_roomJ w B L hones g cap cur hg hBg hcs htk hl i h hr hm p hx vb hvb (fun e => hne (by rw [e]; rfl))).mono ?_
      rintro e w' ⟨rfl, o1, g1⟩
      exact ⟨_, rfl, o1, (Below.refl B w).grown g1 hB (fun k hk => by injection hk with hk; omega), g1, Or.inl rfl⟩
  · obtain rfl : i = L.length := by omega
    refine (ins_endJ w B hB v L hown hl p hx vb hvb).mono ?_
    rintro e w' ⟨v', rfl, o1, g1⟩
    exact ⟨v', rfl, by rw [List.take_of_length_le (Nat.le_refl _), List.drop_of_length_le (Nat.le_refl _)]; exact o1, g1⟩
set_option maxHeartbeats 4000000 in
/-- drop. -/
theorem drop_anyJ (w : World) (B R M : Nat) (F : Int) (G : Bool) (v : Value) (L : List Pr) (hb : Blk w R [.int .i64 (M : Nat), v, .int .i64 F, .bool G]) (hown : OwnP 92 w B v L) (hones : Ones L) (m : Nat) (hn : L.length = m + 1) (hl : L.length ≤ 1000)
    (hne : some R ≠ v.ownBlock) (hB : B ≤ R) :
    Calls Try.prog 40 #[.pointer (some ⟨R, 0, none⟩)] w fun e w' => e = .returned (.int .i64 (keyAt L 0)) ∧ ∃ v', Blk w' R [.int .i64 (M : Nat), v', .int .i64 (keyAt L 0), .bool true] ∧ OwnP 92 w' B v' L.tail ∧ some R ≠ v'.ownBlock ∧ Chg B R v v' w w' := by
  have hL : L ≠ [] := by intro h; rw [h] at hn; simp at hn
  obtain ⟨g, cap, cur, rfl, hBg, _, h1, h2, _, _⟩ := hown.some_ hL
  have k0 := hown.key rfl (i := 0) (by omega)
  rw [Nat.zero_mul] at k0
  obtain ⟨kk, hk⟩ : ∃ x, keyAt L 0 = x := ⟨_, rfl⟩
  rw [hk] at k0 ⊢
  have hgR : g ≠ R := fun e => hne (by rw [e]; rfl)
  have HO : Hid (OwnP 92 w B (.slice (some ⟨g, 0, none⟩) (m + 1) cap) L) := by rw [hn] at hown; exact hown
  have HN : Hid (L.length = m + 1) := hn
  rw [hn] at hb h1 hl
  rw [hn]
  have c1 := hb.cell 1 _ rfl
  have c2 := hb.cell 2 _ rfl
  have c3 := hb.cell 3 _ rfl
  have f2 := hb.froz 2
  have f3 := hb.froz 3
  have HB0 : Hid (Blk w R [.int .i64 (M : Nat), .slice (some ⟨g, 0, none⟩) (m + 1) cap, .int .i64 F, .bool G]) := hb
  have hlt := hb.lt
  clear hb hown hn hk hL
  go_enter Try.func40, Try.ntmps40
  go_upto_region 2 with fail
  obtain ⟨W1, hW1⟩ : ∃ W1, ((w.setCell ⟨R, 2, none⟩ (.int .i64 kk)).setCell ⟨R, 3, none⟩ (.bool true)) = W1 := ⟨_, rfl⟩
  have B1 : Blk W1 R [.int .i64 (M : Nat), .slice (some ⟨g, 0, none⟩) (m + 1) cap, .int .i64 kk, .bool true] := by
    rw [← hW1]; exact (HB0.out.set 2 _ (by simp)).set 3 _ (by simp)
  have g1 : Chg B R (.slice (some ⟨g, 0, none⟩) (m + 1) cap) (.slice (some ⟨g, 0, none⟩) (m + 1) cap) w W1 := by
    rw [← hW1]; exact (Chg.set hB).trans (Chg.set hB)
  have O1 : Hid (OwnP 92 W1 B (.slice (some ⟨g, 0, none⟩) (m + 1) cap) L) := by
    have e1 : w.grownBy W1 (some R) := by
      rw [← hW1]
      exact grown_trans (grown_set w R 2 _) (grown_set _ R 3 _)
    exact HO.out.kept e1 (Or.inr (fun e => hne e.symm))
  have G1 : Hid (Chg B R (.slice (some ⟨g, 0, none⟩) (m + 1) cap) (.slice (some ⟨g, 0, none⟩) (m + 1) cap) w W1) := g1
  rw [hW1]
  clear hW1 c1 c2 c3 f2 f3 HB0 HO k0 g1
  have c1 := B1.cell 1 _ rfl
  go_wp2_with fail
  refine (del_oneJ W1 B L hones m HN.out g cap O1.out (by rw [HN.out]; exact hl)).mono ?_; rintro e w2 ⟨rfl, o2, g2⟩
  have cg2 : Hid (Chg B R (.slice (some ⟨g, 0, none⟩) (m + 1) cap) (.slice (some ⟨g, 0, none⟩) m cap) W1 w2) :=
    Chg.of_grown g2 rfl (Nat.le_trans hB (Nat.le_of_lt B1.lt)) (fun k hk => by
      have hk' : some g = some k := hk
      injection hk' with hk'; omega)
  have O2 : Hid (OwnP 92 w2 B (.slice (some ⟨g, 0, none⟩) m cap) L.tail) := o2
  have B2 := B1.grwn g2 (fun e => by injection e with e; exact hgR e.symm)
  clear c1 o2 g2 B1 O1
  have c1 := B2.cell 1 _ rfl
  have c2 := B2.cell 2 _ rfl
  have f1 := B2.froz 1
  obtain ⟨W3, hW3⟩ : ∃ W3, w2.setCell ⟨R, 1, none⟩ (.slice (some ⟨g, 0, none⟩) m cap) = W3 := ⟨_, rfl⟩
  have B3 : Blk W3 R [.int .i64 (M : Nat), .slice (some ⟨g, 0, none⟩) m cap, .int .i64 kk, .bool true] := by rw [← hW3]; exact B2.set 1 _ (by simp)
  have O3 : Hid (OwnP 92 W3 B (.slice (some ⟨g, 0, none⟩) m cap) L.tail) := by
    rw [← hW3]; exact O2.out.kept (grown_set w2 R 1 _) (Or.inr (fun e => hgR (by injection e)))
  have G3 : Hid (Chg B R (.slice (some ⟨g, 0, none⟩) (m + 1) cap) (.slice (some ⟨g, 0, none⟩) m cap) w W3) := by
    refine (G1.out.trans cg2.out).trans ?_
    rw [← hW3]; exact Chg.set hB
  clear B2 O2 G1 cg2
  have c3 := B3.cell 2 _ rfl
  go_wp2_with fail
  go_ret
  exact ⟨rfl, _, B3, O3.out, hne, G3.out⟩
set_option maxHeartbeats 8000000 in
/-- Lay. -/
theorem lay_anyJ (w : World) (B R : Nat) (v : Value) (s : Rs) (h : RngV 92 w B R v s) (k : Int) (hk : -9223372036854775808 ≤ k ∧ k ≤ 9223372036854775807) (x : Int) :
    Calls Try.prog 28 #[.pointer (some ⟨R, 0, none⟩), .int .i64 k, .int .i64 x] w fun e w' => e = .returned (.tuple #[.int .i64 (layA s k).1, .bool (layA s k).2.1, .int .i64 (layA s k).2.2]) ∧ ∃ v', RngV 92 w' B R v' (layS s k (.int .i64 x)) ∧ Chg B R v v' w w' := by
  have H0 : Hid (RngV 92 w B R v s) := h
  have hBR := h.le
  have hRw := h.blk.lt
  have hlen := h.ok.len
  have hmost := h.ok.most
  clear h
  go_enter Try.func28, Try.ntmps28
  go_wp2_with fail
  refine (until_anyJ w B R v s H0.out k).mono ?_; rintro e w1 ⟨rfl, b1⟩
  have C1 : Hid (Chg B R v v w w1) := Chg.of_below b1 (by omega)
  have R1 : Hid (RngV 92 w1 B R v s) := H0.out.below b1
  have hR1 := R1.out.blk.lt
  clear H0 b1
  obtain ⟨ao, cap, rfl, e1, e2, _⟩ := R1.out.own.form
  have c0 := R1.out.blk.cell 0 _ rfl
  have c1 := R1.out.blk.cell 1 _ rfl
  obtain ⟨n, hn⟩ : ∃ n, s.L.length = n := ⟨_, rfl⟩
  have HN : Hid (s.L.length = n) := hn
  obtain ⟨M, hM⟩ : ∃ M, s.M = M := ⟨_, rfl⟩
  have HM : Hid (s.M = M) := hM
  rw [hn] at c1 hlen e1 R1 C1
  rw [hM] at c0 hlen hmost
  clear hn hM
  rcases hu : untl s.L k with _ | j
  · have HU : Hid (untl s.L k = 0) := hu
    have hat : Hid (isAt s.L k = false) := by show isAt s.L k = false; simp [isAt, hu]
    clear hu
    by_cases hf : n = M
    · have HE : Hid (layA s k = (0, false, 13) ∧ layS s k (.int .i64 x) = s) := lay_stale hat.out ⟨HU.out, by rw [HN.out, HM.out]; exact hf⟩
      subst hf
      go_wp2_with fail
      go_quiet (fail)
      go_wp2_with fail
      go_ret3
      rw [HE.out.1, HE.out.2, HN.out]
      exact ⟨rfl, _, R1.out.drewN _, C1.out.drewN _⟩
    · have d3 : decide ((n : Int) = (M : Int)) = false := by simp; omega
      have d4 : ((n : Int) == (M : Int)) = false := by simp; omega
      have d4' : ¬ ((n : Int) = (M : Int)) := by omega
      have hfi : n < M := by omega
      go_wp2_with fail
      go_quiet (fail)
      have R6 : Hid (RngV 92 (w1.drewN nq) B R (.slice ao n cap) s) := R1.out.drewN nq
      have C6 : Hid (Chg B R (.slice ao n cap) (.slice ao n cap) w (w1.drewN nq)) := C1.out.drewN nq
      have hR6 : R < (World.heap (w1.drewN nq)).size := hR1
      clear R1 C1 c0 c1
      generalize (w1.drewN nq) = w6 at R6 C6 hR6 ⊢
      have c0 := R6.out.blk.cell 0 _ rfl
      have c1 := R6.out.blk.cell 1 _ rfl
      obtain ⟨W2, hW2⟩ : ∃ W2, w6.alloc (.cells #[.int .i64 k, .int .i64 x] 92) = W2 := ⟨_, rfl⟩
      obtain ⟨_, x2, x3, x4⟩ := boxA hW2
      have C2 : Hid (Chg B R (.slice ao n cap) (.slice ao n cap) w W2) := C6.out.trans (Chg.of_below x2 (by omega))
      have O2 := R6.out.own.below x2
      have B2 := R6.out.blk.low x2 hR6
      have hvb : some w6.heap.size ≠ (Value.slice ao n cap).ownBlock := fun e => by
        have := (R6.out.own.lt w6.heap.size e.symm).2
        omega
      have hB2 : B ≤ W2.heap.size := by omega
      obtain ⟨V, hV⟩ : ∃ V, w6.heap.size = V := ⟨_, rfl⟩
      rw [hV] at x4 hvb
      have HI : Hid (Calls Try.prog 39 #[.slice ao n cap, .int .i64 ((0 : Nat) : Int), .slice (some ⟨V, 0, none⟩) 1 1] W2 fun e w' => ∃ v', e = .returned v' ∧ OwnP 92 w' B v' (laid s.L k (.int .i64 x)) ∧ Grow B (.slice ao n cap) W2 v' w') := by
        have := ins_anyJ W2 B hB2 (.slice ao n cap) s.L O2 R6.out.ones (by rw [HN.out]; omega) (0) (by rw [HN.out]; omega) (k, .int .i64 x) rfl V x4 hvb
        unfold laid
        rw [HU.out]
        exact this
      clear x2 x3 x4 O2 hvb
      have HB2 : Hid (Blk W2 R _) := B2
      clear B2
      go_wp2_with fail
      refine HI.out.mono ?_; rintro e w3 ⟨v3, rfl, o3, g3⟩
      have g3c := Chg.of_grow (R := R) g3
      have hne3 : some R ≠ v3.ownBlock := g3c.off HB2.out.lt R6.out.ne
      have B3 : Blk w3 R _ := HB2.out.grwn g3.by_ R6.out.ne
      have C3 : Hid (Chg B R (.slice ao n cap) v3 w w3) := C2.out.trans g3c
      obtain ⟨ao3, cap3, rfl, _, _, _⟩ := o3.form
      rw [laid_len, HN.out] at o3 hne3 C3 ⊢
      have O3 : Hid (OwnP 92 w3 B (.slice ao3 (n + 1) cap3) (laid s.L k (.int .i64 x))) := o3
      have HC3 : Hid (Chg B R (.slice ao n cap) (.slice ao3 (n + 1) cap3) w w3) := C3.out
      have hne3' : Hid (some R ≠ (Value.slice ao3 (n + 1) cap3).ownBlock) := hne3
      clear o3 g3 g3c C2 C3 HI hW2 hB2 c0 c1 hne3
      have f1 := B3.froz 1
      have c1 := B3.cell 1 _ rfl
      obtain ⟨W4, hW4⟩ : ∃ W4, w3.setCell ⟨R, 1, none⟩ (.slice ao3 (n + 1) cap3) = W4 := ⟨_, rfl⟩
      have B4 : Blk W4 R [.int .i64 (s.M : Nat), .slice ao3 (n + 1) cap3, .int .i64 s.F, .bool s.G] := by rw [← hW4]; exact B3.set 1 _ (by simp)
      have O4 : Hid (OwnP 92 W4 B (.slice ao3 (n + 1) cap3) (laid s.L k (.int .i64 x))) := by
        rw [← hW4]
        exact O3.out.kept (grown_set w3 R 1 _) (by
          cases hq : (Value.slice ao3 (n + 1) cap3).ownBlock with
          | none => exact Or.inl rfl
          | some q => exact Or.inr (fun e => hne3'.out (by rw [hq]; exact e.symm)))
      have C4 : Hid (Chg B R (.slice ao n cap) (.slice ao3 (n + 1) cap3) w W4) := by rw [← hW4]; exact HC3.out.trans (Chg.set hBR)
      have HB4 : Hid (Blk W4 R [.int .i64 (s.M : Nat), .slice ao3 (n + 1) cap3, .int .i64 s.F, .bool s.G]) := B4
      have x0 := B4.cell 0 _ rfl
      have x1 := B4.cell 1 _ rfl
      rw [HM.out] at x0
      have hz0 : IntKind.i64.wrap ((n : Int) + 1) = (n : Int) + 1 := by rw [IntKind.wrap_i64]; omega
      clear B4 HB2 O3 HC3 B3
      have HE : Hid (layA s k = (0, false, 0) ∧ layS s k (.int .i64 x) = { s with L := laid s.L k (.int .i64 x) }) := lay_fit hat.out (by rw [HN.out, HM.out]; exact hfi)
      have d5 : decide ((n : Int) + 1 ≤ (M : Int)) = true := by simp; omega
      have d6 : n + 1 ≤ M := by omega
      go_wp2_with fail
      go_quiet (fail)
      go_wp2_with fail
      go_ret3
      rw [HE.out.1, HN.out]
      refine ⟨rfl, _, RngV.drewN ?_ _, C4.out.drewN _⟩
      have ok := lay_ok R6.out.ok hk (.int .i64 x)
      rw [HE.out.2] at ok ⊢
      exact ⟨HB4.out, O4.out, ok, R6.out.ones.laid k rfl, hne3'.out, hBR⟩
  · have HU : Hid (untl s.L k = j + 1) := hu
    have hj : j < n := by have := untl_le s.L k; have := HN.out; omega
    obtain ⟨g, hg⟩ : ∃ g, ao = some ⟨g, 0, none⟩ := by
      have hL : s.L ≠ [] := by intro h; have := HN.out; rw [h] at this; simp at this; omega
      obtain ⟨g, _, _, hv, _⟩ := R1.out.own.some_ hL
      injection hv with hv _ _
      exact ⟨g, hv⟩
    subst hg
    have k0 := R1.out.own.key rfl (i := j) (by rw [HN.out]; exact hj)
    have hat0 : isAt s.L k = decide (keyAt s.L j = k) := by simp [isAt, hu]
    have HT : Hid (isAt s.L k = decide (keyAt s.L j = k)) := hat0
    clear hat0 hu
    obtain ⟨kk, hkk⟩ : ∃ x, keyAt s.L j = x := ⟨_, rfl⟩
    rw [hkk] at k0 HT
    clear hkk
    by_cases he : kk = k
    · subst he
      have HE : Hid (layA s kk = (0, false, 12) ∧ layS s kk (.int .i64 x) = s) := lay_dup (by rw [HT.out]; simp)
      clear HT
      go_wp2_with fail
      go_ret3
      rw [HE.out.1, HE.out.2, HN.out]
      exact ⟨rfl, _, R1.out, C1.out⟩
    · have hat : Hid (isAt s.L k = false) := by show isAt s.L k = false; rw [HT.out]; simpa using he
      clear HT
      have d2 : (kk == k) = false := by simpa using he
      have hd2 : decide (kk = k) = false := by simpa using he
      have hj1 : ¬ ((j : Int) + 1 = 0) := by omega
      go_wp2_with fail
      refine wp_region_any (by kernel_rfl) ?_
      change wpAny _ _ _ _ _ _ _ (World.drew _)
      refine take_to (i := 0) (d := some 32) (v := (.int .i64 ((j : Int) + 1))) rfl rfl (by kernel_rfl) (by kernel_rfl) (by kernel_rfl) (fun _ _ _ h => h) (Or.inl ⟨by rfl, fun w => by go_simp⟩) ?_
      simp only [Act.put, List.setIfInBounds_toArray, List.set_cons_zero, List.set_cons_succ]
      refine take_to (i := 1) (d := some 33) (v := (.bool false)) rfl rfl (by kernel_rfl) (by kernel_rfl) (by kernel_rfl) (fun _ _ _ h => h) (Or.inl ⟨by rfl, fun w => by go_simp⟩) ?_
      simp only [Act.put, List.setIfInBounds_toArray, List.set_cons_zero, List.set_cons_succ]
      refine take_to (i := 2) (d := some 34) (v := (.bool false)) rfl rfl (by kernel_rfl) (by kernel_rfl) (by kernel_rfl) (fun _ _ _ h => h) (Or.inl ⟨by rfl, fun w => by go_simp⟩) ?_
      simp only [Act.put, List.setIfInBounds_toArray, List.set_cons_zero, List.set_cons_succ]
      refine take_to (i := 3) (d := some 35) (v := undef) rfl rfl (by kernel_rfl) (by kernel_rfl) (by kernel_rfl) (fun _ _ _ h => h) (Or.inr ⟨by rfl, rfl⟩) ?_
      simp only [Act.put, List.setIfInBounds_toArray, List.set_cons_zero, List.set_cons_succ]
      refine take_to (i := 4) (d := some 36) (v := undef) rfl rfl (by kernel_rfl) (by kernel_rfl) (by kernel_rfl) (fun _ _ _ h => h) (Or.inr ⟨by rfl, rfl⟩) ?_
      simp only [Act.put, List.setIfInBounds_toArray, List.set_cons_zero, List.set_cons_succ]
      refine take_to (i := 5) (d := some 37) (v := undef) rfl rfl (by kernel_rfl) (by kernel_rfl) (by kernel_rfl) (fun _ _ _ h => h) (Or.inr ⟨by rfl, rfl⟩) ?_
      simp only [Act.put, List.setIfInBounds_toArray, List.set_cons_zero, List.set_cons_succ]
      refine take_to (i := 6) (d := some 38) (v := undef) rfl rfl (by kernel_rfl) (by kernel_rfl) (by kernel_rfl) (fun _ _ _ h => h) (Or.inr ⟨by rfl, rfl⟩) ?_
      simp only [Act.put, List.setIfInBounds_toArray, List.set_cons_zero, List.set_cons_succ]
      refine take_to (i := 7) (d := some 39) (v := undef) rfl rfl (by kernel_rfl) (by kernel_rfl) (by kernel_rfl) (fun _ _ _ h => h) (Or.inr ⟨by rfl, rfl⟩) ?_
      simp only [Act.put, List.setIfInBounds_toArray, List.set_cons_zero, List.set_cons_succ]
      refine take_to (i := 8) (d := some 40) (v := undef) rfl rfl (by kernel_rfl) (by kernel_rfl) (by kernel_rfl) (fun _ _ _ h => h) (Or.inr ⟨by rfl, rfl⟩) ?_
      simp only [Act.put, List.setIfInBounds_toArray, List.set_cons_zero, List.set_cons_succ]
      refine take_to (i := 9) (d := some 41) (v := undef) rfl rfl (by kernel_rfl) (by kernel_rfl) (by kernel_rfl) (fun _ _ _ h => h) (Or.inr ⟨by rfl, rfl⟩) ?_
      simp only [Act.put, List.setIfInBounds_toArray, List.set_cons_zero, List.set_cons_succ]
      refine take_to (i := 10) (d := some 42) (v := undef) rfl rfl (by kernel_rfl) (by kernel_rfl) (by kernel_rfl) (fun _ _ _ h => h) (Or.inr ⟨by rfl, rfl⟩) ?_
      simp only [Act.put, List.setIfInBounds_toArray, List.set_cons_zero, List.set_cons_succ]
      refine take_to (i := 11) (d := some 43) (v := undef) rfl rfl (by kernel_rfl) (by kernel_rfl) (by kernel_rfl) (fun _ _ _ h => h) (Or.inr ⟨by rfl, rfl⟩) ?_
      simp only [Act.put, List.setIfInBounds_toArray, List.set_cons_zero, List.set_cons_succ]
      refine take_to (i := 12) (d := some 44) (v := undef) rfl rfl (by kernel_rfl) (by kernel_rfl) (by kernel_rfl) (fun _ _ _ h => h) (Or.inr ⟨by rfl, rfl⟩) ?_
      simp only [Act.put, List.setIfInBounds_toArray, List.set_cons_zero, List.set_cons_succ]
      refine take_to (i := 13) (d := some 45) (v := (.bool false)) rfl rfl (by kernel_rfl) (by kernel_rfl) (by kernel_rfl) (fun _ _ _ h => h) (Or.inl ⟨by rfl, fun w => by go_simp⟩) ?_
      simp only [Act.put, List.setIfInBounds_toArray, List.set_cons_zero, List.set_cons_succ]
      refine take_to (i := 14) (d := some 31) (v := (.bool false)) rfl rfl (by kernel_rfl) (by kernel_rfl) (by kernel_rfl) (fun _ _ _ h => h) (Or.inl ⟨by rfl, fun w => by go_simp⟩) ?_
      simp only [Act.put, List.setIfInBounds_toArray, List.set_cons_zero, List.set_cons_succ]
      refine wpAny_done (by kernel_rfl) ?_ _
      have R6 : Hid (RngV 92 w1.drew B R (.slice (some ⟨g, 0, none⟩) n cap) s) := R1.out.drew
      have C6 : Hid (Chg B R (.slice (some ⟨g, 0, none⟩) n cap) (.slice (some ⟨g, 0, none⟩) n cap) w w1.drew) := C1.out.drew
      have hR6 : R < (World.heap w1.drew).size := hR1
      clear R1 C1 c0 c1
      generalize w1.drew = w6 at R6 C6 hR6 ⊢
      have c0 := R6.out.blk.cell 0 _ rfl
      have c1 := R6.out.blk.cell 1 _ rfl
      obtain ⟨W2, hW2⟩ : ∃ W2, w6.alloc (.cells #[.int .i64 k, .int .i64 x] 92) = W2 := ⟨_, rfl⟩
      obtain ⟨_, x2, x3, x4⟩ := boxA hW2
      have C2 : Hid (Chg B R (.slice (some ⟨g, 0, none⟩) n cap) (.slice (some ⟨g, 0, none⟩) n cap) w W2) := C6.out.trans (Chg.of_below x2 (by omega))
      have O2 := R6.out.own.below x2
      have B2 := R6.out.blk.low x2 hR6
      have hvb : some w6.heap.size ≠ (Value.slice (some ⟨g, 0, none⟩) n cap).ownBlock := fun e => by
        have := (R6.out.own.lt w6.heap.size e.symm).2
        omega
      have hB2 : B ≤ W2.heap.size := by omega
      obtain ⟨V, hV⟩ : ∃ V, w6.heap.size = V := ⟨_, rfl⟩
      rw [hV] at x4 hvb
      have HI : Hid (Calls Try.prog 39 #[.slice (some ⟨g, 0, none⟩) n cap, .int .i64 ((j + 1 : Nat) : Int), .slice (some ⟨V, 0, none⟩) 1 1] W2 fun e w' => ∃ v', e = .returned v' ∧ OwnP 92 w' B v' (laid s.L k (.int .i64 x)) ∧ Grow B (.slice (some ⟨g, 0, none⟩) n cap) W2 v' w') := by
        have := ins_anyJ W2 B hB2 (.slice (some ⟨g, 0, none⟩) n cap) s.L O2 R6.out.ones (by rw [HN.out]; omega) (j + 1) (by rw [HN.out]; omega) (k, .int .i64 x) rfl V x4 hvb
        unfold laid
        rw [HU.out]
        exact this
      clear x2 x3 x4 O2 hvb
      have HB2 : Hid (Blk W2 R _) := B2
      clear B2
      go_wp2_with fail
      refine HI.out.mono ?_; rintro e w3 ⟨v3, rfl, o3, g3⟩
      have g3c := Chg.of_grow (R := R) g3
      have hne3 : some R ≠ v3.ownBlock := g3c.off HB2.out.lt R6.out.ne
      have B3 : Blk w3 R _ := HB2.out.grwn g3.by_ R6.out.ne
      have C3 : Hid (Chg B R (.slice (some ⟨g, 0, none⟩) n cap) v3 w w3) := C2.out.trans g3c
      obtain ⟨ao3, cap3, rfl, _, _, _⟩ := o3.form
      rw [laid_len, HN.out] at o3 hne3 C3 ⊢
      have O3 : Hid (OwnP 92 w3 B (.slice ao3 (n + 1) cap3) (laid s.L k (.int .i64 x))) := o3
      have HC3 : Hid (Chg B R (.slice (some ⟨g, 0, none⟩) n cap) (.slice ao3 (n + 1) cap3) w w3) := C3.out
      have hne3' : Hid (some R ≠ (Value.slice ao3 (n + 1) cap3).ownBlock) := hne3
      clear o3 g3 g3c C2 C3 HI hW2 hB2 c0 c1 hne3
      have f1 := B3.froz 1
      have c1 := B3.cell 1 _ rfl
      obtain ⟨W4, hW4⟩ : ∃ W4, w3.setCell ⟨R, 1, none⟩ (.slice ao3 (n + 1) cap3) = W4 := ⟨_, rfl⟩
      have B4 : Blk W4 R [.int .i64 (s.M : Nat), .slice ao3 (n + 1) cap3, .int .i64 s.F, .bool s.G] := by rw [← hW4]; exact B3.set 1 _ (by simp)
      have O4 : Hid (OwnP 92 W4 B (.slice ao3 (n + 1) cap3) (laid s.L k (.int .i64 x))) := by
        rw [← hW4]
        exact O3.out.kept (grown_set w3 R 1 _) (by
          cases hq : (Value.slice ao3 (n + 1) cap3).ownBlock with
          | none => exact Or.inl rfl
          | some q => exact Or.inr (fun e => hne3'.out (by rw [hq]; exact e.symm)))
      have C4 : Hid (Chg B R (.slice (some ⟨g, 0, none⟩) n cap) (.slice ao3 (n + 1) cap3) w W4) := by rw [← hW4]; exact HC3.out.trans (Chg.set hBR)
      have HB4 : Hid (Blk W4 R [.int .i64 (s.M : Nat), .slice ao3 (n + 1) cap3, .int .i64 s.F, .bool s.G]) := B4
      have x0 := B4.cell 0 _ rfl
      have x1 := B4.cell 1 _ rfl
      rw [HM.out] at x0
      have hz0 : IntKind.i64.wrap ((n : Int) + 1) = (n : Int) + 1 := by rw [IntKind.wrap_i64]; omega
      clear B4 HB2 O3 HC3 B3
      by_cases hfi : n < M
      · have HE : Hid (layA s k = (0, false, 0) ∧ layS s k (.int .i64 x) = { s with L := laid s.L k (.int .i64 x) }) := lay_fit hat.out (by rw [HN.out, HM.out]; exact hfi)
        have d5 : decide ((n : Int) + 1 ≤ (M : Int)) = true := by simp; omega
        have d6 : n + 1 ≤ M := by omega
        go_wp2_with fail
        go_quiet (fail)
        go_wp2_with fail
        go_ret3
        rw [HE.out.1, HN.out]
        refine ⟨rfl, _, RngV.drewN ?_ _, C4.out.drewN _⟩
        have ok := lay_ok R6.out.ok hk (.int .i64 x)
        rw [HE.out.2] at ok ⊢
        exact ⟨HB4.out, O4.out, ok, R6.out.ones.laid k rfl, hne3'.out, hBR⟩
      · have HE : Hid (layA s k = (keyAt (laid s.L k (.int .i64 x)) 0, true, 0) ∧ layS s k (.int .i64 x) = { s with L := (laid s.L k (.int .i64 x)).tail, F := keyAt (laid s.L k (.int .i64 x)) 0, G := true }) := lay_full hat.out (by rw [HU.out]; simp) (by rw [HN.out, HM.out]; omega)
        have d5 : decide ((n : Int) + 1 ≤ (M : Int)) = false := by simp; omega
        have d6 : ¬ (n + 1 ≤ M) := by omega
        go_wp2_with fail
        go_quiet (fail)
        have HB5 : Hid (Blk (W4.drewN nq) R [.int .i64 (s.M : Nat), .slice ao3 (n + 1) cap3, .int .i64 s.F, .bool s.G]) := ⟨HB4.out.lt, HB4.out.all, HB4.out.froz⟩
        have O5 : Hid (OwnP 92 (W4.drewN nq) B (.slice ao3 (n + 1) cap3) (laid s.L k (.int .i64 x))) := O4.out
        have C5 : Hid (Chg B R (.slice (some ⟨g, 0, none⟩) n cap) (.slice ao3 (n + 1) cap3) w (W4.drewN nq)) := C4.out.drewN nq
        clear HB4 O4 C4 x0 x1 hW4
        generalize W4.drewN nq = W5 at HB5 O5 C5 ⊢
        go_wp2_with fail
        refine (drop_anyJ W5 B R s.M s.F s.G _ _ HB5.out O5.out (R6.out.ones.laid k rfl) n (by rw [laid_len, HN.out]) (by rw [laid_len, HN.out]; omega) hne3'.out hBR).mono ?_; rintro e w5 ⟨rfl, v5, b5, o5, n5, c5⟩
        have HR5 : Hid (Blk w5 R _ ∧ OwnP 92 w5 B v5 _ ∧ some R ≠ v5.ownBlock ∧ Chg B R _ v5 W5 w5) := ⟨b5, o5, n5, c5⟩
        clear b5 o5 n5 c5
        go_wp2_with fail
        go_ret3
        rw [HE.out.1, HN.out]
        refine ⟨rfl, v5, ?_, C5.out.trans HR5.out.2.2.2⟩
        have ok := lay_ok R6.out.ok hk (.int .i64 x)
        rw [HE.out.2] at ok ⊢
        exact ⟨HR5.out.1, HR5.out.2.1, ok, (R6.out.ones.laid k rfl).tail, HR5.out.2.2.1, hBR⟩
end Go.Proofs.Ytfpngbeomgfmfaa
