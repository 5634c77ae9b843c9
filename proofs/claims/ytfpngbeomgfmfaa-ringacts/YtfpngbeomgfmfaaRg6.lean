/-
  Layer 11 (ring): Len, Floor, At, Until, Get, New of rings, for things of three kinds (written by tools/rg6.py).
-/
import Derived.Test.YtfpngbeomgfmfaaRg5
import Derived.Test.YtfpngbeomgfmfaaLy2
namespace Go.Proofs.Ytfpngbeomgfmfaa
open Go.RowKit
set_option linter.unusedVariables false
set_option maxRecDepth 20000

theorem len_anyS (w : World) (B R : Nat) (v : Value) (s : Rs) (h : RngV 77 w B R v s) :
    Calls Try.prog 19 #[.pointer (some ⟨R, 0, none⟩)] w fun e w' => e = .returned (.int .i64 (s.L.length : Nat)) ∧ w' = w := by
  obtain ⟨ao, cap, rfl, h1, h2, h3⟩ := h.own.form
  have c1 := h.blk.cell 1 _ rfl
  clear h h3
  go_enter Try.func19, Try.ntmps19
  go_wp2_with fail
  go_ret
  exact ⟨rfl, rfl⟩
theorem len_nilS (w : World) : Calls Try.prog 19 #[.pointer none] w fun e w' => e = .returned (.int .i64 0) ∧ w' = w := by
  go_enter Try.func19, Try.ntmps19
  go_wp2_with fail
  go_ret
  exact ⟨rfl, rfl⟩
theorem floor_anyS (w : World) (B R : Nat) (v : Value) (s : Rs) (h : RngV 77 w B R v s) :
    Calls Try.prog 18 #[.pointer (some ⟨R, 0, none⟩)] w fun e w' => e = .returned (.tuple #[.int .i64 s.F, .bool s.G]) ∧ ∃ q, w' = w.drewN q := by
  have c2 := h.blk.cell 2 _ rfl
  have c3 := h.blk.cell 3 _ rfl
  clear h
  go_enter Try.func18, Try.ntmps18
  go_wp2_with fail
  go_quiet (fail)
  go_wp2_with fail
  go_ret2
  exact ⟨rfl, _, rfl⟩
theorem floor_nilS (w : World) : Calls Try.prog 18 #[.pointer none] w fun e w' => e = .returned (.tuple #[.int .i64 0, .bool false]) ∧ w' = w := by
  go_enter Try.func18, Try.ntmps18
  go_wp2_with fail
  go_ret2
  exact ⟨rfl, rfl⟩
theorem at_nilS (w : World) (i : Int) : Calls Try.prog 20 #[.pointer none, .int .i64 i] w fun e w' => e = .returned (.tuple #[.int .i64 0, .string ⟨#[]⟩, .int .i64 1]) ∧ w' = w := by
  go_enter Try.func20, Try.ntmps20
  go_wp2_with fail
  go_ret3
  exact ⟨rfl, rfl⟩
/-- At, where there is no place. -/
theorem at_outS (w : World) (B R : Nat) (v : Value) (s : Rs) (h : RngV 77 w B R v s) (i : Int) (hi : i < 0 ∨ (s.L.length : Int) ≤ i) :
    Calls Try.prog 20 #[.pointer (some ⟨R, 0, none⟩), .int .i64 i] w fun e w' => e = .returned (.tuple #[.int .i64 0, .string ⟨#[]⟩, .int .i64 3]) ∧ ∃ q, w' = w.drewN q := by
  obtain ⟨ao, cap, rfl, h1, h2, h3⟩ := h.own.form
  have c1 := h.blk.cell 1 _ rfl
  obtain ⟨n, hn⟩ : ∃ n, s.L.length = n := ⟨_, rfl⟩
  rw [hn] at c1 hi h1
  clear h h3 hn
  by_cases h0 : i < 0
  · have d0 : decide (i < 0) = true := by simpa using h0
    go_enter Try.func20, Try.ntmps20
    go_wp2_with fail
    go_ret3
    exact ⟨rfl, 0, rfl⟩
  · have d0 : decide (i < 0) = false := by simpa using h0
    have d1 : decide ((n : Int) ≤ i) = true := by simp; omega
    go_enter Try.func20, Try.ntmps20
    go_wp2_with fail
    go_ret3
    exact ⟨rfl, 0, rfl⟩
/-- At, at a place. -/
theorem at_inS (w : World) (B R : Nat) (v : Value) (s : Rs) (h : RngV 77 w B R v s) (i : Nat) (hi : i < s.L.length) :
    Calls Try.prog 20 #[.pointer (some ⟨R, 0, none⟩), .int .i64 (i : Nat)] w fun e w' => e = .returned (.tuple #[.int .i64 (keyAt s.L i), thing s.L i, .int .i64 0]) ∧ ∃ q, w' = w.drewN q := by
  have hL : s.L ≠ [] := by intro h; rw [h] at hi; simp at hi
  obtain ⟨g, cap, cur, hv, _, _, h1, h2, _, _⟩ := h.own.some_ hL
  have k0 := h.own.key hv hi
  have k1 := h.own.thing hv hi
  subst hv
  have c1 := h.blk.cell 1 _ rfl
  have hone : (thing s.L i).oneCell' = true := by
    obtain ⟨p, hp, _, e⟩ := keyAt_mem hi
    rw [← e]; exact h.ones p hp
  obtain ⟨n, hn⟩ : ∃ n, s.L.length = n := ⟨_, rfl⟩
  obtain ⟨kk, hk⟩ : ∃ x, keyAt s.L i = x := ⟨_, rfl⟩
  obtain ⟨xx, hx⟩ : ∃ x, thing s.L i = x := ⟨_, rfl⟩
  rw [hn] at c1 hi h1
  rw [hk] at k0 ⊢
  rw [hx] at k1 hone ⊢
  clear h hn hk hx hL
  have d0 : decide ((i : Int) < 0) = false := by simp
  have d1 : decide ((n : Int) ≤ (i : Int)) = false := by simp; omega
  go_enter Try.func20, Try.ntmps20
  go_wp2_with fail
  go_quiet (fail)
  go_wp2_with fail
  go_ret3
  exact ⟨rfl, _, rfl⟩
/-- Until's closure. -/
theorem clo_anyS (W : World) (b1 b2 R g n cap i : Nat) (k y : Int) (c1 : W.cell? ⟨b1, 0, none⟩ = some (.pointer (some ⟨R, 0, none⟩))) (c2 : W.cell? ⟨b2, 0, none⟩ = some (.int .i64 k)) (c3 : W.cell? ⟨R, 1, none⟩ = some (.slice (some ⟨g, 0, none⟩) n cap))
    (c4 : W.cell? ⟨g, i * 2, none⟩ = some (.int .i64 y)) (hi : i < n) :
    Calls Try.prog 34 (#[.int .i64 (i : Nat)] ++ #[.pointer (some ⟨b1, 0, none⟩), .pointer (some ⟨b2, 0, none⟩)]) W fun e w' => e = .returned (.bool (decide (k < y))) ∧ ∃ q, w' = W.drewN q := by
  go_enter Try.func34, Try.ntmps34
  go_wp2_with fail
  go_quiet (fail)
  go_wp2_with fail
  go_ret
  exact ⟨rfl, _, rfl⟩
theorem until_nilS (w : World) (k : Int) : Calls Try.prog 16 #[.pointer none, .int .i64 k] w fun e w' => e = .returned (.int .i64 0) ∧ Below w.heap.size w w' := by
  go_enter Try.func16, Try.ntmps16
  obtain ⟨W1, hW1⟩ : ∃ W1, (w.alloc (.cells #[.pointer none] 23)).alloc (.cells #[.int .i64 k] 2) = W1 := ⟨_, rfl⟩
  have b1 : Below w.heap.size w W1 := by rw [← hW1]; exact ((Below.refl _ w).alloc (Nat.le_refl _) _).alloc (by simp) _
  have d1 : W1.cell? ⟨w.heap.size, 0, none⟩ = some (.pointer none) := by rw [← hW1]; simp
  go_wp2_with fail
  refine (len_nilS W1).mono ?_; rintro e w2 ⟨rfl, rfl⟩
  clear hW1
  go_wp2_with fail
  refine (Any.sort_Search lay_search 34 #[.pointer (some ⟨w.heap.size, 0, none⟩), .pointer (some ⟨w.heap.size + 1, 0, none⟩)] 0 (fun _ => false) w2 (enters_of Try.func34 (by kernel_rfl) rfl) (by omega) (fun m os i hi => by omega) (fun a b _ hb => by omega)).mono ?_
  rintro e w3 ⟨rfl, q, os, rfl⟩
  have b2 := below_grown_sl w2.heap.size w2 q os (Nat.le_refl _)
  go_wp2_with fail
  go_ret
  exact ⟨rfl, b1.trans (b2.mono b1.size)⟩
theorem until_anyS (w : World) (B R : Nat) (v : Value) (s : Rs) (h : RngV 77 w B R v s) (k : Int) :
    Calls Try.prog 16 #[.pointer (some ⟨R, 0, none⟩), .int .i64 k] w fun e w' => e = .returned (.int .i64 (untl s.L k : Nat)) ∧ Below w.heap.size w w' := by
  have HR : Hid (RngV 77 w B R v s) := h
  clear h
  go_enter Try.func16, Try.ntmps16
  obtain ⟨W1, hW1⟩ : ∃ W1, (w.alloc (.cells #[.pointer (some ⟨R, 0, none⟩)] 23)).alloc (.cells #[.int .i64 k] 2) = W1 := ⟨_, rfl⟩
  have b1 : Below w.heap.size w W1 := by rw [← hW1]; exact ((Below.refl _ w).alloc (Nat.le_refl _) _).alloc (by simp) _
  have d1 : W1.cell? ⟨w.heap.size, 0, none⟩ = some (.pointer (some ⟨R, 0, none⟩)) := by rw [← hW1]; simp
  have d2 : W1.cell? ⟨w.heap.size + 1, 0, none⟩ = some (.int .i64 k) := by rw [← hW1]; simp
  go_wp2_with fail
  have h1 := HR.out.below b1
  clear hW1 HR
  refine (len_anyS W1 B R v s h1).mono ?_; rintro e w2 ⟨rfl, rfl⟩
  have H1 : Hid (RngV 77 w2 B R v s) := h1
  clear h1
  go_wp2_with fail
  refine (Any.sort_Search lay_search 34 #[.pointer (some ⟨w.heap.size, 0, none⟩), .pointer (some ⟨w.heap.size + 1, 0, none⟩)] s.L.length (fun i => decide (k < keyAt s.L i)) w2 (enters_of Try.func34 (by kernel_rfl) rfl) (by have := H1.out.ok.len; have := H1.out.ok.most; omega) (fun m os i hi => ?_) (fun a b hab hb ha => ?_)).mono ?_
  · have hL : s.L ≠ [] := by intro h; rw [h] at hi; simp at hi
    have bg := below_grown_sl w2.heap.size w2 m os (Nat.le_refl _)
    have r1 := H1.out.below bg
    obtain ⟨g, cap, cur, hv, _⟩ := r1.own.some_ hL
    have k0 := r1.own.key hv hi
    subst hv
    have l1 := World.block_lt_of_cell? w2 _ d1
    have l2 := World.block_lt_of_cell? w2 _ d2
    refine (clo_anyS _ w.heap.size (w.heap.size + 1) R g s.L.length cap i k (keyAt s.L i) ((bg.cell (p := ⟨_, 0, none⟩) l1).trans d1) ((bg.cell (p := ⟨_, 0, none⟩) l2).trans d2) (r1.blk.cell 1 _ rfl) k0 hi).mono ?_
    rintro e w' ⟨rfl, q, rfl⟩
    exact ⟨rfl, q, #[], by rw [Go.Sort.grow_empty]⟩
  · have ha' : k < keyAt s.L a := by simpa using ha
    have : keyAt s.L a ≤ keyAt s.L b := by
      rcases Nat.eq_or_lt_of_le hab with e | e
      · rw [e]; exact Int.le_refl _
      · have := keyAt_lt H1.out.ok.rise e hb; omega
    simp; omega
  rintro e w3 ⟨rfl, q, os, rfl⟩
  have b2 := below_grown_sl w2.heap.size w2 q os (Nat.le_refl _)
  rw [count_untl]
  go_wp2_with fail
  go_ret
  exact ⟨rfl, b1.trans (b2.mono b1.size)⟩
/-- New. -/
theorem new_noS (w : World) (m : Int) (hm : m < 1 ∨ 64 < m) : Calls Try.prog 9 #[.int .i64 m] w fun e w' => e = .returned (.tuple #[.pointer none, .int .i64 3]) ∧ w' = w := by
  by_cases h0 : m < 1
  · have d0 : decide (m < 1) = true := by simpa using h0
    go_enter Try.func9, Try.ntmps9
    go_wp2_with fail
    go_ret2
    exact ⟨rfl, rfl⟩
  · have d0 : decide (m < 1) = false := by simpa using h0
    have d1 : decide (64 < m) = true := by simp; omega
    go_enter Try.func9, Try.ntmps9
    go_wp2_with fail
    go_ret2
    exact ⟨rfl, rfl⟩
theorem new_anyS (w : World) (m : Nat) (h1 : 1 ≤ m) (h2 : m ≤ 64) : Calls Try.prog 9 #[.int .i64 (m : Nat)] w fun e w' => e = .returned (.tuple #[.pointer (some ⟨w.heap.size, 0, none⟩), .int .i64 0]) ∧ RngV 77 w' w.heap.size w.heap.size (.slice none 0 0) (emptyR m) ∧ Below w.heap.size w w' ∧ w'.heap.size = w.heap.size + 1 := by
  have d0 : decide ((m : Int) < 1) = false := by simp; omega
  have d1 : decide ((64 : Int) < (m : Int)) = false := by simp; omega
  go_enter Try.func9, Try.ntmps9
  go_wp2_with fail
  go_ret2
  obtain ⟨W1, hW1⟩ : ∃ W1, w.alloc (.cells #[.int .i64 (m : Nat), .slice none 0 0, .int .i64 0, .bool false] 74) = W1 := ⟨_, rfl⟩
  obtain ⟨x1, x2, x3, _⟩ := boxA hW1
  rw [hW1]
  exact ⟨rfl, ⟨x1, OwnP.nil _ _, empty_ok ⟨h1, h2⟩, fun p hp => (by cases hp), (by simp [Value.ownBlock]), Nat.le_refl _⟩, x2, x3⟩

theorem len_anyI (w : World) (B R : Nat) (v : Value) (s : Rs) (h : RngV 86 w B R v s) :
    Calls Try.prog 24 #[.pointer (some ⟨R, 0, none⟩)] w fun e w' => e = .returned (.int .i64 (s.L.length : Nat)) ∧ w' = w := by
  obtain ⟨ao, cap, rfl, h1, h2, h3⟩ := h.own.form
  have c1 := h.blk.cell 1 _ rfl
  clear h h3
  go_enter Try.func24, Try.ntmps24
  go_wp2_with fail
  go_ret
  exact ⟨rfl, rfl⟩
theorem len_nilI (w : World) : Calls Try.prog 24 #[.pointer none] w fun e w' => e = .returned (.int .i64 0) ∧ w' = w := by
  go_enter Try.func24, Try.ntmps24
  go_wp2_with fail
  go_ret
  exact ⟨rfl, rfl⟩
theorem floor_anyI (w : World) (B R : Nat) (v : Value) (s : Rs) (h : RngV 86 w B R v s) :
    Calls Try.prog 26 #[.pointer (some ⟨R, 0, none⟩)] w fun e w' => e = .returned (.tuple #[.int .i64 s.F, .bool s.G]) ∧ ∃ q, w' = w.drewN q := by
  have c2 := h.blk.cell 2 _ rfl
  have c3 := h.blk.cell 3 _ rfl
  clear h
  go_enter Try.func26, Try.ntmps26
  go_wp2_with fail
  go_quiet (fail)
  go_wp2_with fail
  go_ret2
  exact ⟨rfl, _, rfl⟩
theorem floor_nilI (w : World) : Calls Try.prog 26 #[.pointer none] w fun e w' => e = .returned (.tuple #[.int .i64 0, .bool false]) ∧ w' = w := by
  go_enter Try.func26, Try.ntmps26
  go_wp2_with fail
  go_ret2
  exact ⟨rfl, rfl⟩
theorem at_nilI (w : World) (i : Int) : Calls Try.prog 23 #[.pointer none, .int .i64 i] w fun e w' => e = .returned (.tuple #[.int .i64 0, .int .i64 0, .int .i64 1]) ∧ w' = w := by
  go_enter Try.func23, Try.ntmps23
  go_wp2_with fail
  go_ret3
  exact ⟨rfl, rfl⟩
/-- At, where there is no place. -/
theorem at_outI (w : World) (B R : Nat) (v : Value) (s : Rs) (h : RngV 86 w B R v s) (i : Int) (hi : i < 0 ∨ (s.L.length : Int) ≤ i) :
    Calls Try.prog 23 #[.pointer (some ⟨R, 0, none⟩), .int .i64 i] w fun e w' => e = .returned (.tuple #[.int .i64 0, .int .i64 0, .int .i64 3]) ∧ ∃ q, w' = w.drewN q := by
  obtain ⟨ao, cap, rfl, h1, h2, h3⟩ := h.own.form
  have c1 := h.blk.cell 1 _ rfl
  obtain ⟨n, hn⟩ : ∃ n, s.L.length = n := ⟨_, rfl⟩
  rw [hn] at c1 hi h1
  clear h h3 hn
  by_cases h0 : i < 0
  · have d0 : decide (i < 0) = true := by simpa using h0
    go_enter Try.func23, Try.ntmps23
    go_wp2_with fail
    go_ret3
    exact ⟨rfl, 0, rfl⟩
  · have d0 : decide (i < 0) = false := by simpa using h0
    have d1 : decide ((n : Int) ≤ i) = true := by simp; omega
    go_enter Try.func23, Try.ntmps23
    go_wp2_with fail
    go_ret3
    exact ⟨rfl, 0, rfl⟩
/-- At, at a place. -/
theorem at_inI (w : World) (B R : Nat) (v : Value) (s : Rs) (h : RngV 86 w B R v s) (i : Nat) (hi : i < s.L.length) :
    Calls Try.prog 23 #[.pointer (some ⟨R, 0, none⟩), .int .i64 (i : Nat)] w fun e w' => e = .returned (.tuple #[.int .i64 (keyAt s.L i), thing s.L i, .int .i64 0]) ∧ ∃ q, w' = w.drewN q := by
  have hL : s.L ≠ [] := by intro h; rw [h] at hi; simp at hi
  obtain ⟨g, cap, cur, hv, _, _, h1, h2, _, _⟩ := h.own.some_ hL
  have k0 := h.own.key hv hi
  have k1 := h.own.thing hv hi
  subst hv
  have c1 := h.blk.cell 1 _ rfl
  have hone : (thing s.L i).oneCell' = true := by
    obtain ⟨p, hp, _, e⟩ := keyAt_mem hi
    rw [← e]; exact h.ones p hp
  obtain ⟨n, hn⟩ : ∃ n, s.L.length = n := ⟨_, rfl⟩
  obtain ⟨kk, hk⟩ : ∃ x, keyAt s.L i = x := ⟨_, rfl⟩
  obtain ⟨xx, hx⟩ : ∃ x, thing s.L i = x := ⟨_, rfl⟩
  rw [hn] at c1 hi h1
  rw [hk] at k0 ⊢
  rw [hx] at k1 hone ⊢
  clear h hn hk hx hL
  have d0 : decide ((i : Int) < 0) = false := by simp
  have d1 : decide ((n : Int) ≤ (i : Int)) = false := by simp; omega
  go_enter Try.func23, Try.ntmps23
  go_wp2_with fail
  go_quiet (fail)
  go_wp2_with fail
  go_ret3
  exact ⟨rfl, _, rfl⟩
/-- Until's closure. -/
theorem clo_anyI (W : World) (b1 b2 R g n cap i : Nat) (k y : Int) (c1 : W.cell? ⟨b1, 0, none⟩ = some (.pointer (some ⟨R, 0, none⟩))) (c2 : W.cell? ⟨b2, 0, none⟩ = some (.int .i64 k)) (c3 : W.cell? ⟨R, 1, none⟩ = some (.slice (some ⟨g, 0, none⟩) n cap))
    (c4 : W.cell? ⟨g, i * 2, none⟩ = some (.int .i64 y)) (hi : i < n) :
    Calls Try.prog 44 (#[.int .i64 (i : Nat)] ++ #[.pointer (some ⟨b1, 0, none⟩), .pointer (some ⟨b2, 0, none⟩)]) W fun e w' => e = .returned (.bool (decide (k < y))) ∧ ∃ q, w' = W.drewN q := by
  go_enter Try.func44, Try.ntmps44
  go_wp2_with fail
  go_quiet (fail)
  go_wp2_with fail
  go_ret
  exact ⟨rfl, _, rfl⟩
theorem until_nilI (w : World) (k : Int) : Calls Try.prog 35 #[.pointer none, .int .i64 k] w fun e w' => e = .returned (.int .i64 0) ∧ Below w.heap.size w w' := by
  go_enter Try.func35, Try.ntmps35
  obtain ⟨W1, hW1⟩ : ∃ W1, (w.alloc (.cells #[.pointer none] 50)).alloc (.cells #[.int .i64 k] 2) = W1 := ⟨_, rfl⟩
  have b1 : Below w.heap.size w W1 := by rw [← hW1]; exact ((Below.refl _ w).alloc (Nat.le_refl _) _).alloc (by simp) _
  have d1 : W1.cell? ⟨w.heap.size, 0, none⟩ = some (.pointer none) := by rw [← hW1]; simp
  go_wp2_with fail
  refine (len_nilI W1).mono ?_; rintro e w2 ⟨rfl, rfl⟩
  clear hW1
  go_wp2_with fail
  refine (Any.sort_Search lay_search 44 #[.pointer (some ⟨w.heap.size, 0, none⟩), .pointer (some ⟨w.heap.size + 1, 0, none⟩)] 0 (fun _ => false) w2 (enters_of Try.func44 (by kernel_rfl) rfl) (by omega) (fun m os i hi => by omega) (fun a b _ hb => by omega)).mono ?_
  rintro e w3 ⟨rfl, q, os, rfl⟩
  have b2 := below_grown_sl w2.heap.size w2 q os (Nat.le_refl _)
  go_wp2_with fail
  go_ret
  exact ⟨rfl, b1.trans (b2.mono b1.size)⟩
theorem until_anyI (w : World) (B R : Nat) (v : Value) (s : Rs) (h : RngV 86 w B R v s) (k : Int) :
    Calls Try.prog 35 #[.pointer (some ⟨R, 0, none⟩), .int .i64 k] w fun e w' => e = .returned (.int .i64 (untl s.L k : Nat)) ∧ Below w.heap.size w w' := by
  have HR : Hid (RngV 86 w B R v s) := h
  clear h
  go_enter Try.func35, Try.ntmps35
  obtain ⟨W1, hW1⟩ : ∃ W1, (w.alloc (.cells #[.pointer (some ⟨R, 0, none⟩)] 50)).alloc (.cells #[.int .i64 k] 2) = W1 := ⟨_, rfl⟩
  have b1 : Below w.heap.size w W1 := by rw [← hW1]; exact ((Below.refl _ w).alloc (Nat.le_refl _) _).alloc (by simp) _
  have d1 : W1.cell? ⟨w.heap.size, 0, none⟩ = some (.pointer (some ⟨R, 0, none⟩)) := by rw [← hW1]; simp
  have d2 : W1.cell? ⟨w.heap.size + 1, 0, none⟩ = some (.int .i64 k) := by rw [← hW1]; simp
  go_wp2_with fail
  have h1 := HR.out.below b1
  clear hW1 HR
  refine (len_anyI W1 B R v s h1).mono ?_; rintro e w2 ⟨rfl, rfl⟩
  have H1 : Hid (RngV 86 w2 B R v s) := h1
  clear h1
  go_wp2_with fail
  refine (Any.sort_Search lay_search 44 #[.pointer (some ⟨w.heap.size, 0, none⟩), .pointer (some ⟨w.heap.size + 1, 0, none⟩)] s.L.length (fun i => decide (k < keyAt s.L i)) w2 (enters_of Try.func44 (by kernel_rfl) rfl) (by have := H1.out.ok.len; have := H1.out.ok.most; omega) (fun m os i hi => ?_) (fun a b hab hb ha => ?_)).mono ?_
  · have hL : s.L ≠ [] := by intro h; rw [h] at hi; simp at hi
    have bg := below_grown_sl w2.heap.size w2 m os (Nat.le_refl _)
    have r1 := H1.out.below bg
    obtain ⟨g, cap, cur, hv, _⟩ := r1.own.some_ hL
    have k0 := r1.own.key hv hi
    subst hv
    have l1 := World.block_lt_of_cell? w2 _ d1
    have l2 := World.block_lt_of_cell? w2 _ d2
    refine (clo_anyI _ w.heap.size (w.heap.size + 1) R g s.L.length cap i k (keyAt s.L i) ((bg.cell (p := ⟨_, 0, none⟩) l1).trans d1) ((bg.cell (p := ⟨_, 0, none⟩) l2).trans d2) (r1.blk.cell 1 _ rfl) k0 hi).mono ?_
    rintro e w' ⟨rfl, q, rfl⟩
    exact ⟨rfl, q, #[], by rw [Go.Sort.grow_empty]⟩
  · have ha' : k < keyAt s.L a := by simpa using ha
    have : keyAt s.L a ≤ keyAt s.L b := by
      rcases Nat.eq_or_lt_of_le hab with e | e
      · rw [e]; exact Int.le_refl _
      · have := keyAt_lt H1.out.ok.rise e hb; omega
    simp; omega
  rintro e w3 ⟨rfl, q, os, rfl⟩
  have b2 := below_grown_sl w2.heap.size w2 q os (Nat.le_refl _)
  rw [count_untl]
  go_wp2_with fail
  go_ret
  exact ⟨rfl, b1.trans (b2.mono b1.size)⟩
/-- New. -/
theorem new_noI (w : World) (m : Int) (hm : m < 1 ∨ 64 < m) : Calls Try.prog 21 #[.int .i64 m] w fun e w' => e = .returned (.tuple #[.pointer none, .int .i64 3]) ∧ w' = w := by
  by_cases h0 : m < 1
  · have d0 : decide (m < 1) = true := by simpa using h0
    go_enter Try.func21, Try.ntmps21
    go_wp2_with fail
    go_ret2
    exact ⟨rfl, rfl⟩
  · have d0 : decide (m < 1) = false := by simpa using h0
    have d1 : decide (64 < m) = true := by simp; omega
    go_enter Try.func21, Try.ntmps21
    go_wp2_with fail
    go_ret2
    exact ⟨rfl, rfl⟩
theorem new_anyI (w : World) (m : Nat) (h1 : 1 ≤ m) (h2 : m ≤ 64) : Calls Try.prog 21 #[.int .i64 (m : Nat)] w fun e w' => e = .returned (.tuple #[.pointer (some ⟨w.heap.size, 0, none⟩), .int .i64 0]) ∧ RngV 86 w' w.heap.size w.heap.size (.slice none 0 0) (emptyR m) ∧ Below w.heap.size w w' ∧ w'.heap.size = w.heap.size + 1 := by
  have d0 : decide ((m : Int) < 1) = false := by simp; omega
  have d1 : decide ((64 : Int) < (m : Int)) = false := by simp; omega
  go_enter Try.func21, Try.ntmps21
  go_wp2_with fail
  go_ret2
  obtain ⟨W1, hW1⟩ : ∃ W1, w.alloc (.cells #[.int .i64 (m : Nat), .slice none 0 0, .int .i64 0, .bool false] 84) = W1 := ⟨_, rfl⟩
  obtain ⟨x1, x2, x3, _⟩ := boxA hW1
  rw [hW1]
  exact ⟨rfl, ⟨x1, OwnP.nil _ _, empty_ok ⟨h1, h2⟩, fun p hp => (by cases hp), (by simp [Value.ownBlock]), Nat.le_refl _⟩, x2, x3⟩

theorem len_anyJ (w : World) (B R : Nat) (v : Value) (s : Rs) (h : RngV 92 w B R v s) :
    Calls Try.prog 29 #[.pointer (some ⟨R, 0, none⟩)] w fun e w' => e = .returned (.int .i64 (s.L.length : Nat)) ∧ w' = w := by
  obtain ⟨ao, cap, rfl, h1, h2, h3⟩ := h.own.form
  have c1 := h.blk.cell 1 _ rfl
  clear h h3
  go_enter Try.func29, Try.ntmps29
  go_wp2_with fail
  go_ret
  exact ⟨rfl, rfl⟩
theorem len_nilJ (w : World) : Calls Try.prog 29 #[.pointer none] w fun e w' => e = .returned (.int .i64 0) ∧ w' = w := by
  go_enter Try.func29, Try.ntmps29
  go_wp2_with fail
  go_ret
  exact ⟨rfl, rfl⟩
theorem at_nilJ (w : World) (i : Int) : Calls Try.prog 30 #[.pointer none, .int .i64 i] w fun e w' => e = .returned (.tuple #[.int .i64 0, .int .i64 0, .int .i64 1]) ∧ w' = w := by
  go_enter Try.func30, Try.ntmps30
  go_wp2_with fail
  go_ret3
  exact ⟨rfl, rfl⟩
/-- At, where there is no place. -/
theorem at_outJ (w : World) (B R : Nat) (v : Value) (s : Rs) (h : RngV 92 w B R v s) (i : Int) (hi : i < 0 ∨ (s.L.length : Int) ≤ i) :
    Calls Try.prog 30 #[.pointer (some ⟨R, 0, none⟩), .int .i64 i] w fun e w' => e = .returned (.tuple #[.int .i64 0, .int .i64 0, .int .i64 3]) ∧ ∃ q, w' = w.drewN q := by
  obtain ⟨ao, cap, rfl, h1, h2, h3⟩ := h.own.form
  have c1 := h.blk.cell 1 _ rfl
  obtain ⟨n, hn⟩ : ∃ n, s.L.length = n := ⟨_, rfl⟩
  rw [hn] at c1 hi h1
  clear h h3 hn
  by_cases h0 : i < 0
  · have d0 : decide (i < 0) = true := by simpa using h0
    go_enter Try.func30, Try.ntmps30
    go_wp2_with fail
    go_ret3
    exact ⟨rfl, 0, rfl⟩
  · have d0 : decide (i < 0) = false := by simpa using h0
    have d1 : decide ((n : Int) ≤ i) = true := by simp; omega
    go_enter Try.func30, Try.ntmps30
    go_wp2_with fail
    go_ret3
    exact ⟨rfl, 0, rfl⟩
/-- At, at a place. -/
theorem at_inJ (w : World) (B R : Nat) (v : Value) (s : Rs) (h : RngV 92 w B R v s) (i : Nat) (hi : i < s.L.length) :
    Calls Try.prog 30 #[.pointer (some ⟨R, 0, none⟩), .int .i64 (i : Nat)] w fun e w' => e = .returned (.tuple #[.int .i64 (keyAt s.L i), thing s.L i, .int .i64 0]) ∧ ∃ q, w' = w.drewN q := by
  have hL : s.L ≠ [] := by intro h; rw [h] at hi; simp at hi
  obtain ⟨g, cap, cur, hv, _, _, h1, h2, _, _⟩ := h.own.some_ hL
  have k0 := h.own.key hv hi
  have k1 := h.own.thing hv hi
  subst hv
  have c1 := h.blk.cell 1 _ rfl
  have hone : (thing s.L i).oneCell' = true := by
    obtain ⟨p, hp, _, e⟩ := keyAt_mem hi
    rw [← e]; exact h.ones p hp
  obtain ⟨n, hn⟩ : ∃ n, s.L.length = n := ⟨_, rfl⟩
  obtain ⟨kk, hk⟩ : ∃ x, keyAt s.L i = x := ⟨_, rfl⟩
  obtain ⟨xx, hx⟩ : ∃ x, thing s.L i = x := ⟨_, rfl⟩
  rw [hn] at c1 hi h1
  rw [hk] at k0 ⊢
  rw [hx] at k1 hone ⊢
  clear h hn hk hx hL
  have d0 : decide ((i : Int) < 0) = false := by simp
  have d1 : decide ((n : Int) ≤ (i : Int)) = false := by simp; omega
  go_enter Try.func30, Try.ntmps30
  go_wp2_with fail
  go_quiet (fail)
  go_wp2_with fail
  go_ret3
  exact ⟨rfl, _, rfl⟩
/-- Until's closure. -/
theorem clo_anyJ (W : World) (b1 b2 R g n cap i : Nat) (k y : Int) (c1 : W.cell? ⟨b1, 0, none⟩ = some (.pointer (some ⟨R, 0, none⟩))) (c2 : W.cell? ⟨b2, 0, none⟩ = some (.int .i64 k)) (c3 : W.cell? ⟨R, 1, none⟩ = some (.slice (some ⟨g, 0, none⟩) n cap))
    (c4 : W.cell? ⟨g, i * 2, none⟩ = some (.int .i64 y)) (hi : i < n) :
    Calls Try.prog 48 (#[.int .i64 (i : Nat)] ++ #[.pointer (some ⟨b1, 0, none⟩), .pointer (some ⟨b2, 0, none⟩)]) W fun e w' => e = .returned (.bool (decide (k < y))) ∧ ∃ q, w' = W.drewN q := by
  go_enter Try.func48, Try.ntmps48
  go_wp2_with fail
  go_quiet (fail)
  go_wp2_with fail
  go_ret
  exact ⟨rfl, _, rfl⟩
theorem until_nilJ (w : World) (k : Int) : Calls Try.prog 38 #[.pointer none, .int .i64 k] w fun e w' => e = .returned (.int .i64 0) ∧ Below w.heap.size w w' := by
  go_enter Try.func38, Try.ntmps38
  obtain ⟨W1, hW1⟩ : ∃ W1, (w.alloc (.cells #[.pointer none] 62)).alloc (.cells #[.int .i64 k] 2) = W1 := ⟨_, rfl⟩
  have b1 : Below w.heap.size w W1 := by rw [← hW1]; exact ((Below.refl _ w).alloc (Nat.le_refl _) _).alloc (by simp) _
  have d1 : W1.cell? ⟨w.heap.size, 0, none⟩ = some (.pointer none) := by rw [← hW1]; simp
  go_wp2_with fail
  refine (len_nilJ W1).mono ?_; rintro e w2 ⟨rfl, rfl⟩
  clear hW1
  go_wp2_with fail
  refine (Any.sort_Search lay_search 48 #[.pointer (some ⟨w.heap.size, 0, none⟩), .pointer (some ⟨w.heap.size + 1, 0, none⟩)] 0 (fun _ => false) w2 (enters_of Try.func48 (by kernel_rfl) rfl) (by omega) (fun m os i hi => by omega) (fun a b _ hb => by omega)).mono ?_
  rintro e w3 ⟨rfl, q, os, rfl⟩
  have b2 := below_grown_sl w2.heap.size w2 q os (Nat.le_refl _)
  go_wp2_with fail
  go_ret
  exact ⟨rfl, b1.trans (b2.mono b1.size)⟩
theorem until_anyJ (w : World) (B R : Nat) (v : Value) (s : Rs) (h : RngV 92 w B R v s) (k : Int) :
    Calls Try.prog 38 #[.pointer (some ⟨R, 0, none⟩), .int .i64 k] w fun e w' => e = .returned (.int .i64 (untl s.L k : Nat)) ∧ Below w.heap.size w w' := by
  have HR : Hid (RngV 92 w B R v s) := h
  clear h
  go_enter Try.func38, Try.ntmps38
  obtain ⟨W1, hW1⟩ : ∃ W1, (w.alloc (.cells #[.pointer (some ⟨R, 0, none⟩)] 62)).alloc (.cells #[.int .i64 k] 2) = W1 := ⟨_, rfl⟩
  have b1 : Below w.heap.size w W1 := by rw [← hW1]; exact ((Below.refl _ w).alloc (Nat.le_refl _) _).alloc (by simp) _
  have d1 : W1.cell? ⟨w.heap.size, 0, none⟩ = some (.pointer (some ⟨R, 0, none⟩)) := by rw [← hW1]; simp
  have d2 : W1.cell? ⟨w.heap.size + 1, 0, none⟩ = some (.int .i64 k) := by rw [← hW1]; simp
  go_wp2_with fail
  have h1 := HR.out.below b1
  clear hW1 HR
  refine (len_anyJ W1 B R v s h1).mono ?_; rintro e w2 ⟨rfl, rfl⟩
  have H1 : Hid (RngV 92 w2 B R v s) := h1
  clear h1
  go_wp2_with fail
  refine (Any.sort_Search lay_search 48 #[.pointer (some ⟨w.heap.size, 0, none⟩), .pointer (some ⟨w.heap.size + 1, 0, none⟩)] s.L.length (fun i => decide (k < keyAt s.L i)) w2 (enters_of Try.func48 (by kernel_rfl) rfl) (by have := H1.out.ok.len; have := H1.out.ok.most; omega) (fun m os i hi => ?_) (fun a b hab hb ha => ?_)).mono ?_
  · have hL : s.L ≠ [] := by intro h; rw [h] at hi; simp at hi
    have bg := below_grown_sl w2.heap.size w2 m os (Nat.le_refl _)
    have r1 := H1.out.below bg
    obtain ⟨g, cap, cur, hv, _⟩ := r1.own.some_ hL
    have k0 := r1.own.key hv hi
    subst hv
    have l1 := World.block_lt_of_cell? w2 _ d1
    have l2 := World.block_lt_of_cell? w2 _ d2
    refine (clo_anyJ _ w.heap.size (w.heap.size + 1) R g s.L.length cap i k (keyAt s.L i) ((bg.cell (p := ⟨_, 0, none⟩) l1).trans d1) ((bg.cell (p := ⟨_, 0, none⟩) l2).trans d2) (r1.blk.cell 1 _ rfl) k0 hi).mono ?_
    rintro e w' ⟨rfl, q, rfl⟩
    exact ⟨rfl, q, #[], by rw [Go.Sort.grow_empty]⟩
  · have ha' : k < keyAt s.L a := by simpa using ha
    have : keyAt s.L a ≤ keyAt s.L b := by
      rcases Nat.eq_or_lt_of_le hab with e | e
      · rw [e]; exact Int.le_refl _
      · have := keyAt_lt H1.out.ok.rise e hb; omega
    simp; omega
  rintro e w3 ⟨rfl, q, os, rfl⟩
  have b2 := below_grown_sl w2.heap.size w2 q os (Nat.le_refl _)
  rw [count_untl]
  go_wp2_with fail
  go_ret
  exact ⟨rfl, b1.trans (b2.mono b1.size)⟩
/-- New. -/
theorem new_noJ (w : World) (m : Int) (hm : m < 1 ∨ 64 < m) : Calls Try.prog 27 #[.int .i64 m] w fun e w' => e = .returned (.tuple #[.pointer none, .int .i64 3]) ∧ w' = w := by
  by_cases h0 : m < 1
  · have d0 : decide (m < 1) = true := by simpa using h0
    go_enter Try.func27, Try.ntmps27
    go_wp2_with fail
    go_ret2
    exact ⟨rfl, rfl⟩
  · have d0 : decide (m < 1) = false := by simpa using h0
    have d1 : decide (64 < m) = true := by simp; omega
    go_enter Try.func27, Try.ntmps27
    go_wp2_with fail
    go_ret2
    exact ⟨rfl, rfl⟩
theorem new_anyJ (w : World) (m : Nat) (h1 : 1 ≤ m) (h2 : m ≤ 64) : Calls Try.prog 27 #[.int .i64 (m : Nat)] w fun e w' => e = .returned (.tuple #[.pointer (some ⟨w.heap.size, 0, none⟩), .int .i64 0]) ∧ RngV 92 w' w.heap.size w.heap.size (.slice none 0 0) (emptyR m) ∧ Below w.heap.size w w' ∧ w'.heap.size = w.heap.size + 1 := by
  have d0 : decide ((m : Int) < 1) = false := by simp; omega
  have d1 : decide ((64 : Int) < (m : Int)) = false := by simp; omega
  go_enter Try.func27, Try.ntmps27
  go_wp2_with fail
  go_ret2
  obtain ⟨W1, hW1⟩ : ∃ W1, w.alloc (.cells #[.int .i64 (m : Nat), .slice none 0 0, .int .i64 0, .bool false] 90) = W1 := ⟨_, rfl⟩
  obtain ⟨x1, x2, x3, _⟩ := boxA hW1
  rw [hW1]
  exact ⟨rfl, ⟨x1, OwnP.nil _ _, empty_ok ⟨h1, h2⟩, fun p hp => (by cases hp), (by simp [Value.ownBlock]), Nat.le_refl _⟩, x2, x3⟩
end Go.Proofs.Ytfpngbeomgfmfaa
