/-
  Texts Sg6 in one.
-/
import Derived.Deep.RegionHeld3
import Derived.Test.YtlpdhglibgnkoaaGreatP26
namespace Go.Proofs.YtlpdhglibgnkoaaGreat
open Go.RowKit
set_option linter.unusedVariables false
set_option maxRecDepth 20000

theorem len_anyP (w : World) (B R : Nat) (v : Value) (s : Rs) (h : RngV 90 w B R v s) :
    Calls Tryz.prog 21 #[.pointer (some ⟨R, 0, none⟩)] w fun e w' => e = .returned (.int .i64 (s.L.length : Nat)) ∧ w' = w := by
  obtain ⟨ao, cap, rfl, h1, h2, h3⟩ := h.own.form
  have c1 := h.blk.cell 1 _ rfl
  clear h h3
  go_enter Tryz.func21, Tryz.ntmps21
  go_wp2_with fail
  go_ret
  exact ⟨rfl, rfl⟩
/-- At, where there is no place. -/
theorem at_outP (w : World) (B R : Nat) (v : Value) (s : Rs) (h : RngV 90 w B R v s) (i : Int) (hi : i < 0 ∨ (s.L.length : Int) ≤ i) :
    Calls Tryz.prog 22 #[.pointer (some ⟨R, 0, none⟩), .int .i64 i] w fun e w' => e = .returned (.tuple #[.int .i64 0, .agg #[.int .i64 0, .int .i64 0, .slice none 0 0], .int .i64 3]) ∧ Below w.heap.size w w' := by
  obtain ⟨ao, cap, rfl, h1, h2, h3⟩ := h.own.form
  have HRG : Hid (RngV 90 w B R (.slice ao s.L.length cap) s) := h
  obtain ⟨n, hn⟩ : ∃ n, s.L.length = n := ⟨_, rfl⟩
  rw [hn] at HRG hi h1
  clear h h3 hn
  go_enter Tryz.func22, Tryz.ntmps22
  go_upto_region 2 with fail
  generalize hW : (w.alloc (.cells #[.int .i64 0, .int .i64 0, .slice none 0 0] 45)).alloc (.cells #[.int .i64 0, .int .i64 0, .slice none 0 0] 45) = W
  obtain ⟨Y0, X0, b0⟩ := boxed2 hW
  have c1 := (HRG.out.below b0).blk.cell 1 _ rfl
  obtain ⟨H, hH⟩ : ∃ H, w.heap.size = H := ⟨_, rfl⟩
  have HH : Hid (w.heap.size = H) := hH
  rw [hH] at Y0 X0 b0
  rw [hH]
  clear hW hH HRG
  by_cases h0 : i < 0
  · have dd : decide (i < 0) = true := by simpa using h0
    go_wp2_with fail
    have d0 := Y0.cell 0 _ rfl
    have f0 := Y0.froz 0
    have d1 := Y0.cell 1 _ rfl
    have f1 := Y0.froz 1
    have d2 := Y0.cell 2 _ rfl
    have f2 := Y0.froz 2
    have lr := Y0.lt
    have x0 := X0.cell 0 _ rfl
    have x1 := X0.cell 1 _ rfl
    have x2 := X0.cell 2 _ rfl
    have lx := X0.lt
    have ne : H ≠ H + 1 := by omega
    go_region_held3 (fun w' => w'.cell? ⟨H + 1, 0, none⟩ = some (.int .i64 0) ∧ w'.cell? ⟨H + 1, 1, none⟩ = some (.int .i64 0) ∧ w'.cell? ⟨H + 1, 2, none⟩ = some (.slice none 0 0)) (first | with_reducible exact ⟨x0, x1, x2⟩ | with_reducible exact ⟨far3 x0 ne, far3 x1 ne, far3 x2 ne⟩ | with_reducible exact ⟨far3d x0 ne, far3d x1 ne, far3d x2 ne⟩ | go_keep) (fail)
    clear d0 d1 d2 f0 f1 f2 lr x0 x1 x2 lx X0
    have RB := (blk_three (x0 := .int .i64 0) (x1 := .int .i64 0) (x2 := .slice none 0 0) Y0).drew
    have LB := (below_three (x0 := .int .i64 0) (x1 := .int .i64 0) (x2 := .slice none 0 0) b0 (show H ≤ H by omega)).drew
    generalize (((W.setCell ⟨H, 0, none⟩ (.int .i64 0)).setCell ⟨H, 1, none⟩ (.int .i64 0)).setCell ⟨H, 2, none⟩ (.slice none 0 0)).drew = W9 at RB LB ⊢
    go_wp2_with fail
    have h0 := RB.cell 0 _ rfl
    have h1 := RB.cell 1 _ rfl
    have h2 := RB.cell 2 _ rfl
    refine bodyPost_ret (v := .tuple #[.int .i64 0, .agg #[.int .i64 0, .int .i64 0, .slice none 0 0], .int .i64 3]) (by simp [results, Tryz.results22, go_sem, h0, h1, h2]) rfl ⟨rfl, by rw [HH.out]; exact LB⟩
  · have dd : decide (i < 0) = false := by simpa using h0
    have dd1 : decide ((n : Int) ≤ i) = true := by simp; omega
    go_wp2_with fail
    have d0 := Y0.cell 0 _ rfl
    have f0 := Y0.froz 0
    have d1 := Y0.cell 1 _ rfl
    have f1 := Y0.froz 1
    have d2 := Y0.cell 2 _ rfl
    have f2 := Y0.froz 2
    have lr := Y0.lt
    have x0 := X0.cell 0 _ rfl
    have x1 := X0.cell 1 _ rfl
    have x2 := X0.cell 2 _ rfl
    have lx := X0.lt
    have ne : H ≠ H + 1 := by omega
    go_region_held3 (fun w' => w'.cell? ⟨H + 1, 0, none⟩ = some (.int .i64 0) ∧ w'.cell? ⟨H + 1, 1, none⟩ = some (.int .i64 0) ∧ w'.cell? ⟨H + 1, 2, none⟩ = some (.slice none 0 0)) (first | with_reducible exact ⟨x0, x1, x2⟩ | with_reducible exact ⟨far3 x0 ne, far3 x1 ne, far3 x2 ne⟩ | with_reducible exact ⟨far3d x0 ne, far3d x1 ne, far3d x2 ne⟩ | go_keep) (fail)
    clear d0 d1 d2 f0 f1 f2 lr x0 x1 x2 lx X0
    have RB := (blk_three (x0 := .int .i64 0) (x1 := .int .i64 0) (x2 := .slice none 0 0) Y0).drew
    have LB := (below_three (x0 := .int .i64 0) (x1 := .int .i64 0) (x2 := .slice none 0 0) b0 (show H ≤ H by omega)).drew
    generalize (((W.setCell ⟨H, 0, none⟩ (.int .i64 0)).setCell ⟨H, 1, none⟩ (.int .i64 0)).setCell ⟨H, 2, none⟩ (.slice none 0 0)).drew = W9 at RB LB ⊢
    go_wp2_with fail
    have h0 := RB.cell 0 _ rfl
    have h1 := RB.cell 1 _ rfl
    have h2 := RB.cell 2 _ rfl
    refine bodyPost_ret (v := .tuple #[.int .i64 0, .agg #[.int .i64 0, .int .i64 0, .slice none 0 0], .int .i64 3]) (by simp [results, Tryz.results22, go_sem, h0, h1, h2]) rfl ⟨rfl, by rw [HH.out]; exact LB⟩
/-- At, at a place. -/
theorem at_inP (w : World) (B R : Nat) (v : Value) (s : Rs) (h : RngV 90 w B R v s) (i : Nat) (hi : i < s.L.length) :
    Calls Tryz.prog 22 #[.pointer (some ⟨R, 0, none⟩), .int .i64 (i : Nat)] w fun e w' => e = .returned (.tuple #[.int .i64 (keyAt s.L i), thing s.L i, .int .i64 0]) ∧ Below w.heap.size w w' := by
  have HRG : Hid (RngV 90 w B R v s) := h
  have hone : Trio (thing s.L i) := by
    obtain ⟨p, hp, _, e⟩ := keyAt_mem hi
    rw [← e]; exact h.ones p hp
  obtain ⟨x0, x1, xo, xn, xc, hxx, hx0, hx1, hx2⟩ := hone.letters
  rw [hxx]
  obtain ⟨n, hn⟩ : ∃ n, s.L.length = n := ⟨_, rfl⟩
  obtain ⟨kk, hk⟩ : ∃ x, keyAt s.L i = x := ⟨_, rfl⟩
  rw [hk]
  have hL : s.L ≠ [] := by intro h; rw [h] at hi; simp at hi
  have HX : Hid (∀ W, Below w.heap.size w W → ∃ g cap, v = .slice (some ⟨g, 0, none⟩) n cap ∧ g < w.heap.size ∧ n ≤ cap ∧ cap ≤ 9223372036854775807 ∧ W.cell? ⟨R, 1, none⟩ = some (.slice (some ⟨g, 0, none⟩) n cap) ∧ W.cell? ⟨g, i * 4, none⟩ = some (.int .i64 kk) ∧ W.cell? ⟨g, i * 4 + 1, none⟩ = some (.int .i64 x0) ∧ W.cell? ⟨g, i * 4 + 2, none⟩ = some (.int .i64 x1) ∧ W.cell? ⟨g, i * 4 + 3, none⟩ = some (.slice xo xn xc)) := fun W b0 => by
    have h := HRG.out.below b0
    obtain ⟨g, cap, cur, hv, _, hgw, h1, h2, _, _⟩ := HRG.out.own.some_ hL
    have k0 := h.own.key hv hi
    have k1 := h.own.th0 hv hi
    have k2 := h.own.th1 hv hi
    have k3 := h.own.th2 hv hi
    have c1 := h.blk.cell 1 _ rfl
    rw [hk] at k0
    rw [hx0] at k1
    rw [hx1] at k2
    rw [hx2] at k3
    rw [hn] at hv h1
    subst hv
    exact ⟨g, cap, rfl, (Array.getElem?_eq_some_iff.1 hgw).1, h1, h2, c1, k0, k1, k2, k3⟩
  have hRw := h.blk.lt
  rw [hn] at hi
  clear h hn hk hx0 hx1 hx2 hone hL HRG hxx
  go_enter Tryz.func22, Tryz.ntmps22
  go_upto_region 2 with fail
  generalize hW : (w.alloc (.cells #[.int .i64 0, .int .i64 0, .slice none 0 0] 45)).alloc (.cells #[.int .i64 0, .int .i64 0, .slice none 0 0] 45) = W
  obtain ⟨Y0, X0, b0⟩ := boxed2 hW
  obtain ⟨g, cap, hv, hgl, h1, h2, c1, k0, k1, k2, k3⟩ := HX.out W b0
  subst hv
  obtain ⟨H, hH⟩ : ∃ H, w.heap.size = H := ⟨_, rfl⟩
  have HH : Hid (w.heap.size = H) := hH
  rw [hH] at Y0 X0 b0 hRw hgl
  rw [hH]
  clear hW hH HX
  have dd : decide ((i : Int) < 0) = false := by simp
  have dd1 : decide ((n : Int) ≤ (i : Int)) = false := by simp; omega
  go_wp2_with fail
  have d0 := Y0.cell 0 _ rfl
  have f0 := Y0.froz 0
  have d1 := Y0.cell 1 _ rfl
  have f1 := Y0.froz 1
  have d2 := Y0.cell 2 _ rfl
  have f2 := Y0.froz 2
  have lr := Y0.lt
  have ne1 : H ≠ R := by omega
  have ne2 : H ≠ g := by omega
  go_region_held3 (fun w' => w'.cell? ⟨R, 1, none⟩ = some (.slice (some ⟨g, 0, none⟩) n cap) ∧ w'.cell? ⟨g, i * 4, none⟩ = some (.int .i64 kk) ∧ w'.cell? ⟨g, i * 4 + 1, none⟩ = some (.int .i64 x0) ∧ w'.cell? ⟨g, i * 4 + 2, none⟩ = some (.int .i64 x1) ∧ w'.cell? ⟨g, i * 4 + 3, none⟩ = some (.slice xo xn xc)) (first | with_reducible exact ⟨c1, k0, k1, k2, k3⟩ | with_reducible exact ⟨far3 c1 ne1, far3 k0 ne2, far3 k1 ne2, far3 k2 ne2, far3 k3 ne2⟩ | with_reducible exact ⟨far3d c1 ne1, far3d k0 ne2, far3d k1 ne2, far3d k2 ne2, far3d k3 ne2⟩ | go_keep) (fail)
  clear d0 d1 d2 f0 f1 f2 lr X0
  have RB := (blk_three (x0 := .int .i64 x0) (x1 := .int .i64 x1) (x2 := .slice xo xn xc) Y0).drew
  have LB := (below_three (x0 := .int .i64 x0) (x1 := .int .i64 x1) (x2 := .slice xo xn xc) b0 (show H ≤ H by omega)).drew
  generalize (((W.setCell ⟨H, 0, none⟩ (.int .i64 x0)).setCell ⟨H, 1, none⟩ (.int .i64 x1)).setCell ⟨H, 2, none⟩ (.slice xo xn xc)).drew = W9 at RB LB ⊢
  go_wp2_with fail
  have h0 := RB.cell 0 _ rfl
  have h1 := RB.cell 1 _ rfl
  have h2 := RB.cell 2 _ rfl
  refine bodyPost_ret (v := .tuple #[.int .i64 kk, .agg #[.int .i64 x0, .int .i64 x1, .slice xo xn xc], .int .i64 0]) (by simp [results, Tryz.results22, go_sem, h0, h1, h2]) rfl ⟨rfl, by rw [HH.out]; exact LB⟩
/-- Until's closure. -/
theorem clo_anyP (W : World) (b1 b2 R g n cap i : Nat) (k y : Int) (c1 : W.cell? ⟨b1, 0, none⟩ = some (.pointer (some ⟨R, 0, none⟩))) (c2 : W.cell? ⟨b2, 0, none⟩ = some (.int .i64 k)) (c3 : W.cell? ⟨R, 1, none⟩ = some (.slice (some ⟨g, 0, none⟩) n cap))
    (c4 : W.cell? ⟨g, i * 4, none⟩ = some (.int .i64 y)) (hi : i < n) :
    Calls Tryz.prog 66 (#[.int .i64 (i : Nat)] ++ #[.pointer (some ⟨b1, 0, none⟩), .pointer (some ⟨b2, 0, none⟩)]) W fun e w' => e = .returned (.bool (decide (k < y))) ∧ ∃ q, w' = W.drewN q := by
  go_enter Tryz.func66, Tryz.ntmps66
  go_wp2_with fail
  go_quiet (fail)
  go_wp2_with fail
  go_ret
  exact ⟨rfl, _, rfl⟩
theorem until_anyP (w : World) (B R : Nat) (v : Value) (s : Rs) (h : RngV 90 w B R v s) (k : Int) :
    Calls Tryz.prog 41 #[.pointer (some ⟨R, 0, none⟩), .int .i64 k] w fun e w' => e = .returned (.int .i64 (untl s.L k : Nat)) ∧ Below w.heap.size w w' := by
  have HR : Hid (RngV 90 w B R v s) := h
  clear h
  go_enter Tryz.func41, Tryz.ntmps41
  obtain ⟨W1, hW1⟩ : ∃ W1, (w.alloc (.cells #[.pointer (some ⟨R, 0, none⟩)] 52)).alloc (.cells #[.int .i64 k] 2) = W1 := ⟨_, rfl⟩
  have b1 : Below w.heap.size w W1 := by rw [← hW1]; exact ((Below.refl _ w).alloc (Nat.le_refl _) _).alloc (by simp) _
  have d1 : W1.cell? ⟨w.heap.size, 0, none⟩ = some (.pointer (some ⟨R, 0, none⟩)) := by rw [← hW1]; simp
  have d2 : W1.cell? ⟨w.heap.size + 1, 0, none⟩ = some (.int .i64 k) := by rw [← hW1]; simp
  go_wp2_with fail
  have h1 := HR.out.below b1
  clear hW1 HR
  refine (len_anyP W1 B R v s h1).mono ?_; rintro e w2 ⟨rfl, rfl⟩
  have H1 : Hid (RngV 90 w2 B R v s) := h1
  clear h1
  go_wp2_with fail
  refine (Any.sort_Search lay_search 66 #[.pointer (some ⟨w.heap.size, 0, none⟩), .pointer (some ⟨w.heap.size + 1, 0, none⟩)] s.L.length (fun i => decide (k < keyAt s.L i)) w2 (enters_of Tryz.func66 (by kernel_rfl) rfl) (by have := H1.out.ok.len; have := H1.out.ok.most; omega) (fun m os i hi => ?_) (fun a b hab hb ha => ?_)).mono ?_
  · have hL : s.L ≠ [] := by intro h; rw [h] at hi; simp at hi
    have bg := below_grown_sl w2.heap.size w2 m os (Nat.le_refl _)
    have r1 := H1.out.below bg
    obtain ⟨g, cap, cur, hv, _⟩ := r1.own.some_ hL
    have k0 := r1.own.key hv hi
    subst hv
    have l1 := World.block_lt_of_cell? w2 _ d1
    have l2 := World.block_lt_of_cell? w2 _ d2
    refine (clo_anyP _ w.heap.size (w.heap.size + 1) R g s.L.length cap i k (keyAt s.L i) ((bg.cell (p := ⟨_, 0, none⟩) l1).trans d1) ((bg.cell (p := ⟨_, 0, none⟩) l2).trans d2) (r1.blk.cell 1 _ rfl) k0 hi).mono ?_
    rintro e w' ⟨rfl, q, rfl⟩
    exact ⟨rfl, q, #[], by rw [Go.Sort.grow_empty]⟩
  · have ha' : k < keyAt s.L a := by simpa using ha
    have : keyAt s.L a ≤ keyAt s.L b := by
      rcases Nat.eq_or_lt_of_le hab with e | e
      · rw [e]; exact Int.le_refl _
      · have := keyAt_lt H1.out.ok.rise e hb; omega
    simp; omega
  rintro e w3 ⟨rfl, q, os, rfl⟩
  have b2 := below_grown_sl w2.heap.size w2 q os (Nat.le_refl _)
  rw [count_untl]
  go_wp2_with fail
  go_ret
  exact ⟨rfl, b1.trans (b2.mono b1.size)⟩
theorem new_anyP (w : World) (m : Nat) (h1 : 1 ≤ m) (h2 : m ≤ 64) : Calls Tryz.prog 17 #[.int .i64 (m : Nat)] w fun e w' => e = .returned (.tuple #[.pointer (some ⟨w.heap.size, 0, none⟩), .int .i64 0]) ∧ RngV 90 w' w.heap.size w.heap.size (.slice none 0 0) (emptyR m) ∧ Below w.heap.size w w' ∧ w'.heap.size = w.heap.size + 1 := by
  have d0 : decide ((m : Int) < 1) = false := by simp; omega
  have d1 : decide ((64 : Int) < (m : Int)) = false := by simp; omega
  go_enter Tryz.func17, Tryz.ntmps17
  go_wp2_with fail
  go_ret2
  obtain ⟨W1, hW1⟩ : ∃ W1, w.alloc (.cells #[.int .i64 (m : Nat), .slice none 0 0, .int .i64 0, .bool false] 72) = W1 := ⟨_, rfl⟩
  obtain ⟨x1, x2, x3, _⟩ := boxA hW1
  rw [hW1]
  exact ⟨rfl, ⟨x1, OwnP.nil _ _, empty_ok ⟨h1, h2⟩, fun p hp => (by cases hp), (by simp [Value.ownBlock]), Nat.le_refl _⟩, x2, x3⟩
end Go.Proofs.YtlpdhglibgnkoaaGreat
