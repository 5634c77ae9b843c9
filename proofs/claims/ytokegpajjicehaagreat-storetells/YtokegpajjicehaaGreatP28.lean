/-
  Texts Dl12 in one.
-/
import Derived.Test.YtokegpajjicehaaGreatP27
namespace Go.Proofs.YtokegpajjicehaaGreat
open Go.RowKit
set_option linter.unusedVariables false
set_option maxRecDepth 8000

def fulG (t m : Int) (L : List En) : Gm := if fulE t m L = 0 then ⟨t, m, -1⟩ else ⟨0, 0, 0⟩
def dlG (t m : Int) (L : List En) (t' m' : Int) (L' : List En) : Gm := if dlE t m L t' m' L' = 0 then ⟨t', m', t⟩ else ⟨0, 0, 0⟩
theorem ful_tel (g : Gm) (L : List En) : (telE [] L = if ∃ x ∈ L, x.g ≠ 0 then 15 else 0) ∧ (telG g [] L = if ∃ x ∈ L, x.g ≠ 0 then ⟨0, 0, 0⟩ else g) ∧ (telL [] L = if ∃ x ∈ L, x.g ≠ 0 then [] else L.map putR) := by
  unfold telE telG telL
  rw [mrg_nil]
  split
  · exact ⟨rfl, rfl, rfl⟩
  · exact ⟨rfl, rfl, rfl⟩
theorem ful_yes (t m : Int) (L : List En) (h : snE t m L = 0) : telE [] L = fulE t m L ∧ telG ⟨t, m, -1⟩ [] L = fulG t m L ∧ telL [] L = fulL t m L := by
  obtain ⟨h1, h2, h3⟩ := ful_tel ⟨t, m, -1⟩ L
  have e : fulE t m L = if ∃ x ∈ L, x.g ≠ 0 then 15 else 0 := by unfold fulE; rw [if_pos h]
  refine ⟨by rw [h1, e], ?_, ?_⟩
  · unfold fulG; rw [h2, e]
    split <;> rfl
  · unfold fulL; rw [h3, e]
    split <;> rfl
theorem ful_no (t m : Int) (L : List En) (h : snE t m L ≠ 0) : fulE t m L = snE t m L ∧ fulG t m L = ⟨0, 0, 0⟩ ∧ fulL t m L = [] := by
  have e : fulE t m L = snE t m L := by unfold fulE; rw [if_neg h]
  exact ⟨e, by unfold fulG; rw [if_neg (by rw [e]; exact h)], by unfold fulL; rw [if_neg (by rw [e]; exact h)]⟩
theorem dl_no {t m : Int} {L : List En} {t' m' : Int} {L' : List En} (h : dlE t m L t' m' L' ≠ 0) : dlG t m L t' m' L' = ⟨0, 0, 0⟩ ∧ dlL t m L t' m' L' = [] := ⟨by unfold dlG; rw [if_neg h], by unfold dlL; rw [if_neg h]⟩
theorem dl_yes {t m : Int} {L : List En} {t' m' : Int} {L' : List En} (h1 : snE t m L = 0) (h2 : snE t' m' L' = 0) (h3 : ¬ t' ≤ t) : telE L L' = dlE t m L t' m' L' ∧ telG ⟨t', m', t⟩ L L' = dlG t m L t' m' L' ∧ telL L L' = dlL t m L t' m' L' := by
  have e : dlE t m L t' m' L' = telE L L' := by unfold dlE telE; rw [if_pos h1, if_pos h2, if_neg h3]
  refine ⟨e.symm, ?_, ?_⟩
  · unfold dlG; rw [e]; unfold telG telE
    split <;> rfl
  · unfold dlL; rw [e]; unfold telE telL
    cases h : mrg L L' <;> rfl
theorem sn_rise {t m : Int} {A : Nat → En} {n : Nat} (h : snE t m (preE A n) = 0) : rise (-1) (preE A n) := (sn_ok h).2.2.2.2
theorem pre_g {A : Nat → En} {n : Nat} (h : ∀ i, i < n → (A i).ok) : ∀ x ∈ preE A n, 0 ≤ x.g ∧ x.g ≤ 255 := by
  intro x hx
  unfold preE at hx
  obtain ⟨i, hi, rfl⟩ := List.mem_map.1 hx
  exact (h i (by simpa using hi)).g
set_option maxHeartbeats 1000000 in
theorem dl_full (w : World) (t m : Int) (v : Value) (n : Nat) (A : Nat → En) (hv : RdE w v n A) :
    Calls Tryz.prog 12 #[snV t m v] w fun e w' => ∃ u, e = .returned (.tuple #[gmV (fulG t m (preE A n)) u, .int .i64 (fulE t m (preE A n))]) ∧ OwnR w' w.heap.size u (fulL t m (preE A n)) ∧ Below w.heap.size w w' := by
  have HR : Hid (RdE w v n A) := hv
  have HC : Hid (∀ w', Below w.heap.size w w' → Calls Tryz.prog 17 #[snV t m v] w' fun e w'' => e = .returned (.int .i64 (snE t m (preE A n))) ∧ Below w'.heap.size w' w'') := fun w' h => sn_check w' t m v n A (hv.below h)
  have HN : Hid (snE t m (preE A n) ≠ 0 → fulE t m (preE A n) = snE t m (preE A n) ∧ fulG t m (preE A n) = ⟨0, 0, 0⟩ ∧ fulL t m (preE A n) = []) := ful_no t m _
  have HT : Hid (snE t m (preE A n) = 0 → ∀ w', Below w.heap.size w w' → Calls Tryz.prog 35 #[snV t m v, .int .i64 (-1), .slice none 0 0] w' fun e w'' => ∃ u, e = .returned (.tuple #[gmV (fulG t m (preE A n)) u, .int .i64 (fulE t m (preE A n))]) ∧ OwnR w'' w'.heap.size u (fulL t m (preE A n)) ∧ Below w'.heap.size w' w'') := fun h w' hb => by
    have := dl_tell w' t m (-1) v (.slice none 0 0) n 0 A (fun _ => noEnt) (hv.below hb) (RdE.none _) (sn_rise h) trivial (fun x hx => by cases hx)
    have e := ful_yes t m _ h
    rw [preE_zero, e.1, e.2.1, e.2.2] at this
    exact this
  obtain ⟨s, hs⟩ : ∃ s, snE t m (preE A n) = s := ⟨_, rfl⟩
  obtain ⟨E, hE⟩ : ∃ E, fulE t m (preE A n) = E := ⟨_, rfl⟩
  obtain ⟨G, hG⟩ : ∃ G, fulG t m (preE A n) = G := ⟨_, rfl⟩
  obtain ⟨TL, hL⟩ : ∃ L, fulL t m (preE A n) = L := ⟨_, rfl⟩
  rw [hs, hE, hG, hL] at HN HT
  rw [hs] at HC
  rw [hE, hG, hL]
  clear hs hE hG hL hv
  obtain ⟨ao, cap, e0, hc, hm, _⟩ := HR.out
  subst e0
  go_enter Tryz.func12, Tryz.ntmps12
  go_wp2_with fail
  generalize hW : (w.alloc (.cells #[.int .i64 t, .int .i64 m, .slice ao n cap] 24)).alloc (.cells #[.int .i64 0, .int .i64 0, .int .i64 0, .slice none 0 0] 29) = W
  obtain ⟨X0, R0, b0⟩ := boxed2 hW
  obtain ⟨H, hH⟩ : ∃ H, w.heap.size = H := ⟨_, rfl⟩
  have HH : Hid (w.heap.size = H) := hH
  clear hW
  refine (HC.out _ b0).mono ?_; rintro e w1 ⟨rfl, b1⟩
  rw [hH] at X0 R0 b0
  rw [hH]
  have X1 := X0.below b1 X0.lt
  have R1 := R0.below b1 R0.lt
  have B1 : Below H w w1 := bup b0 (Nat.le_of_eq hH.symm) b1
  clear hH HC X0 R0 b0 b1
  by_cases hz : s = 0
  · subst hz
    have HT' := HT.out (by trivial)
    have HT2 : Hid (∀ w', Below w.heap.size w w' → Calls Tryz.prog 35 #[snV t m (.slice ao n cap), .int .i64 (-1), .slice none 0 0] w' fun e w'' => ∃ u, e = .returned (.tuple #[gmV G u, .int .i64 E]) ∧ OwnR w'' w'.heap.size u TL ∧ Below w'.heap.size w' w'') := HT'
    clear HT HN HT'
    have x0 := X1.cell 0 _ rfl
    have x1 := X1.cell 1 _ rfl
    have x2 := X1.cell 2 _ rfl
    have lx := X1.lt
    go_wp2_with fail
    refine (HT2.out _ (by rw [HH.out]; exact B1)).mono ?_; rintro e w2 ⟨u, rfl, own, b2⟩
    have R2 := R1.below b2 R1.lt
    have B2 := bup B1 (Nat.le_of_eq HH.out.symm) b2
    have O2 : Hid (OwnR w2 w1.heap.size u TL) := own
    have lw := R1.lt
    obtain ⟨au, cu, eu⟩ := own.form
    obtain ⟨nu, hnu⟩ : ∃ x, TL.length = x := ⟨_, rfl⟩
    rw [hnu] at eu
    obtain ⟨g0, g1, g2⟩ := G
    clear own hnu HT2 x0 x1 x2 lx X1 b2 R1 B1
    subst eu
    have d0 := R2.cell 0 _ rfl
    have f0 := R2.froz 0
    have d1 := R2.cell 1 _ rfl
    have f1 := R2.froz 1
    have d2 := R2.cell 2 _ rfl
    have f2 := R2.froz 2
    have d3 := R2.cell 3 _ rfl
    have f3 := R2.froz 3
    have lr := R2.lt
    go_wp2_with fail
    have RB := Blk.four (x0 := .int .i64 g0) (x1 := .int .i64 g1) (x2 := .int .i64 g2) (x3 := .slice au nu cu) R2
    have LB := below_four (x0 := .int .i64 g0) (x1 := .int .i64 g1) (x2 := .int .i64 g2) (x3 := .slice au nu cu) B2 (show H ≤ H + 1 by omega)
    have OB := (((O2.out.set (b := H + 1) (o := 0) (x := .int .i64 g0) (by omega)).set (b := H + 1) (o := 1) (x := .int .i64 g1) (by omega)).set (b := H + 1) (o := 2) (x := .int .i64 g2) (by omega)).set (b := H + 1) (o := 3) (x := .slice au nu cu) (by omega)
    generalize (((w2.setCell ⟨H + 1, 0, none⟩ (.int .i64 g0)).setCell ⟨H + 1, 1, none⟩ (.int .i64 g1)).setCell ⟨H + 1, 2, none⟩ (.int .i64 g2)).setCell ⟨H + 1, 3, none⟩ (.slice au nu cu) = W9 at RB LB OB ⊢
    have h0 := RB.cell 0 _ rfl
    have h1 := RB.cell 1 _ rfl
    have h2 := RB.cell 2 _ rfl
    have h3 := RB.cell 3 _ rfl
    refine bodyPost_ret (v := .tuple #[gmV ⟨g0, g1, g2⟩ (.slice au nu cu), .int .i64 E]) (by simp [results, Tryz.results12, go_sem, h0, h1, h2, h3]) rfl ⟨_, rfl, OB.mono (by rw [HH.out]; omega), by rw [HH.out]; exact LB⟩
  · obtain ⟨k1, k2, k3⟩ := HN.out hz
    subst k1 k2 k3
    clear HT HN
    have hq : (E == 0) = false := by simp [hz]
    have d0 := R1.cell 0 _ rfl
    have f0 := R1.froz 0
    have d1 := R1.cell 1 _ rfl
    have f1 := R1.froz 1
    have d2 := R1.cell 2 _ rfl
    have f2 := R1.froz 2
    have d3 := R1.cell 3 _ rfl
    have f3 := R1.froz 3
    have lr := R1.lt
    go_wp2_with fail
    have RB := Blk.four (x0 := .int .i64 0) (x1 := .int .i64 0) (x2 := .int .i64 0) (x3 := .slice none 0 0) R1
    have LB := below_four (x0 := .int .i64 0) (x1 := .int .i64 0) (x2 := .int .i64 0) (x3 := .slice none 0 0) B1 (show H ≤ H + 1 by omega)
    generalize (((w1.setCell ⟨H + 1, 0, none⟩ (.int .i64 0)).setCell ⟨H + 1, 1, none⟩ (.int .i64 0)).setCell ⟨H + 1, 2, none⟩ (.int .i64 0)).setCell ⟨H + 1, 3, none⟩ (.slice none 0 0) = W9 at RB LB ⊢
    have h0 := RB.cell 0 _ rfl
    have h1 := RB.cell 1 _ rfl
    have h2 := RB.cell 2 _ rfl
    have h3 := RB.cell 3 _ rfl
    refine bodyPost_ret (v := .tuple #[gmV ⟨0, 0, 0⟩ (.slice none 0 0), .int .i64 E]) (by simp [results, Tryz.results12, go_sem, h0, h1, h2, h3]) rfl ⟨_, rfl, OwnR.nil _ _, by rw [HH.out]; exact LB⟩
set_option maxHeartbeats 2000000 in
theorem dl_diff (w : World) (t m : Int) (v : Value) (n : Nat) (A : Nat → En) (hA : ∀ i, i < n → (A i).ok) (hv : RdE w v n A) (t' m' : Int) (v' : Value) (n' : Nat) (A' : Nat → En) (hv' : RdE w v' n' A') :
    Calls Tryz.prog 10 #[snV t m v, snV t' m' v'] w fun e w' => ∃ u, e = .returned (.tuple #[gmV (dlG t m (preE A n) t' m' (preE A' n')) u, .int .i64 (dlE t m (preE A n) t' m' (preE A' n'))]) ∧ OwnR w' w.heap.size u (dlL t m (preE A n) t' m' (preE A' n')) ∧ Below w.heap.size w w' := by
  have HR : Hid (RdE w v n A) := hv
  have HR' : Hid (RdE w v' n' A') := hv'
  have HC : Hid (∀ w', Below w.heap.size w w' → Calls Tryz.prog 17 #[snV t m v] w' fun e w'' => e = .returned (.int .i64 (snE t m (preE A n))) ∧ Below w'.heap.size w' w'') := fun w' h => sn_check w' t m v n A (hv.below h)
  have HC' : Hid (∀ w', Below w.heap.size w w' → Calls Tryz.prog 17 #[snV t' m' v'] w' fun e w'' => e = .returned (.int .i64 (snE t' m' (preE A' n'))) ∧ Below w'.heap.size w' w'') := fun w' h => sn_check w' t' m' v' n' A' (hv'.below h)
  have HZ : Hid (dlE t m (preE A n) t' m' (preE A' n') ≠ 0 → dlG t m (preE A n) t' m' (preE A' n') = ⟨0, 0, 0⟩ ∧ dlL t m (preE A n) t' m' (preE A' n') = []) := dl_no
  have H1 : Hid (snE t m (preE A n) ≠ 0 → dlE t m (preE A n) t' m' (preE A' n') = snE t m (preE A n)) := fun h => by unfold dlE; rw [if_neg h]
  have H2 : Hid (snE t m (preE A n) = 0 → snE t' m' (preE A' n') ≠ 0 → dlE t m (preE A n) t' m' (preE A' n') = snE t' m' (preE A' n')) := fun h h' => by unfold dlE; rw [if_pos h, if_neg h']
  have H3 : Hid (snE t m (preE A n) = 0 → snE t' m' (preE A' n') = 0 → t' ≤ t → dlE t m (preE A n) t' m' (preE A' n') = 10) := fun h h' h2 => by unfold dlE; rw [if_pos h, if_pos h', if_pos h2]
  have HT : Hid (snE t m (preE A n) = 0 → snE t' m' (preE A' n') = 0 → ¬ t' ≤ t → ∀ w', Below w.heap.size w w' → Calls Tryz.prog 35 #[snV t' m' v', .int .i64 t, v] w' fun e w'' => ∃ u, e = .returned (.tuple #[gmV (dlG t m (preE A n) t' m' (preE A' n')) u, .int .i64 (dlE t m (preE A n) t' m' (preE A' n'))]) ∧ OwnR w'' w'.heap.size u (dlL t m (preE A n) t' m' (preE A' n')) ∧ Below w'.heap.size w' w'') := fun h h' h2 w' hb => by
    have := dl_tell w' t' m' t v' v n' n A' A (hv'.below hb) (hv.below hb) (sn_rise h') (sn_rise h) (pre_g hA)
    have e := dl_yes h h' h2
    rw [e.1, e.2.1, e.2.2] at this
    exact this
  obtain ⟨s, hs⟩ : ∃ s, snE t m (preE A n) = s := ⟨_, rfl⟩
  obtain ⟨s', hs'⟩ : ∃ s, snE t' m' (preE A' n') = s := ⟨_, rfl⟩
  obtain ⟨E, hE⟩ : ∃ E, dlE t m (preE A n) t' m' (preE A' n') = E := ⟨_, rfl⟩
  obtain ⟨G, hG⟩ : ∃ G, dlG t m (preE A n) t' m' (preE A' n') = G := ⟨_, rfl⟩
  obtain ⟨TL, hL⟩ : ∃ L, dlL t m (preE A n) t' m' (preE A' n') = L := ⟨_, rfl⟩
  rw [hE, hG, hL] at HZ
  rw [hs, hE] at H1
  rw [hs, hs', hE] at H2 H3
  rw [hs, hs', hE, hG, hL] at HT
  rw [hs] at HC
  rw [hs'] at HC'
  rw [hE, hG, hL]
  clear hs hs' hE hG hL hv hv' hA
  obtain ⟨ao, cap, e0, hc, hm, _⟩ := HR.out
  subst e0
  obtain ⟨ao', cap', e0, hc', hm', _⟩ := HR'.out
  subst e0
  go_enter Tryz.func10, Tryz.ntmps10
  go_wp2_with fail
  generalize hW : ((w.alloc (.cells #[.int .i64 t, .int .i64 m, .slice ao n cap] 24)).alloc (.cells #[.int .i64 t', .int .i64 m', .slice ao' n' cap'] 24)).alloc (.cells #[.int .i64 0, .int .i64 0, .int .i64 0, .slice none 0 0] 29) = W
  obtain ⟨X0, Y0, R0, b0, -⟩ := boxed3 hW
  obtain ⟨H, hH⟩ : ∃ H, w.heap.size = H := ⟨_, rfl⟩
  have HH : Hid (w.heap.size = H) := hH
  clear hW
  refine (HC.out _ b0).mono ?_; rintro e w1 ⟨rfl, b1⟩
  rw [hH] at X0 Y0 R0 b0
  rw [hH]
  have X1 := X0.below b1 X0.lt
  have Y1 := Y0.below b1 Y0.lt
  have R1 := R0.below b1 R0.lt
  have B1 : Below H w w1 := bup b0 (Nat.le_of_eq hH.symm) b1
  clear hH HC X0 Y0 R0 b0 b1
  by_cases hz : s = 0
  · subst hz
    clear H1
    have y0 := Y1.cell 0 _ rfl
    have y1 := Y1.cell 1 _ rfl
    have y2 := Y1.cell 2 _ rfl
    have ly := Y1.lt
    go_wp2_with fail
    refine (HC'.out _ (by rw [HH.out]; exact B1)).mono ?_; rintro e w2 ⟨rfl, b2⟩
    have X2 := X1.below b2 X1.lt
    have Y2 := Y1.below b2 Y1.lt
    have R2 := R1.below b2 R1.lt
    have B2 := bup B1 (Nat.le_of_eq HH.out.symm) b2
    clear y0 y1 y2 ly X1 Y1 R1 B1 b2 HC'
    by_cases hz : s' = 0
    · subst hz
      clear H2
      have x0 := X2.cell 0 _ rfl
      have x1 := X2.cell 1 _ rfl
      have x2 := X2.cell 2 _ rfl
      have y0 := Y2.cell 0 _ rfl
      have y1 := Y2.cell 1 _ rfl
      have y2 := Y2.cell 2 _ rfl
      have lx := X2.lt
      have ly := Y2.lt
      by_cases ht : t' ≤ t
      · have k1 := H3.out (by trivial) (by trivial) ht
        obtain ⟨k2, k3⟩ := HZ.out (by rw [k1]; decide)
        subst k1 k2 k3
        clear HT HZ H3
        have d0 := R2.cell 0 _ rfl
        have f0 := R2.froz 0
        have d1 := R2.cell 1 _ rfl
        have f1 := R2.froz 1
        have d2 := R2.cell 2 _ rfl
        have f2 := R2.froz 2
        have d3 := R2.cell 3 _ rfl
        have f3 := R2.froz 3
        have lr := R2.lt
        go_wp2_with fail
        have RB := Blk.four (x0 := .int .i64 0) (x1 := .int .i64 0) (x2 := .int .i64 0) (x3 := .slice none 0 0) R2
        have LB := below_four (x0 := .int .i64 0) (x1 := .int .i64 0) (x2 := .int .i64 0) (x3 := .slice none 0 0) B2 (show H ≤ H + 1 + 1 by omega)
        generalize (((w2.setCell ⟨H + 1 + 1, 0, none⟩ (.int .i64 0)).setCell ⟨H + 1 + 1, 1, none⟩ (.int .i64 0)).setCell ⟨H + 1 + 1, 2, none⟩ (.int .i64 0)).setCell ⟨H + 1 + 1, 3, none⟩ (.slice none 0 0) = W9 at RB LB ⊢
        have h0 := RB.cell 0 _ rfl
        have h1 := RB.cell 1 _ rfl
        have h2 := RB.cell 2 _ rfl
        have h3 := RB.cell 3 _ rfl
        refine bodyPost_ret (v := .tuple #[gmV ⟨0, 0, 0⟩ (.slice none 0 0), .int .i64 10]) (by simp [results, Tryz.results10, go_sem, h0, h1, h2, h3]) rfl ⟨_, rfl, OwnR.nil _ _, by rw [HH.out]; exact LB⟩
      · have HT' := HT.out (by trivial) (by trivial) (by omega)
        have HT2 : Hid (∀ w', Below w.heap.size w w' → Calls Tryz.prog 35 #[snV t' m' (.slice ao' n' cap'), .int .i64 t, .slice ao n cap] w' fun e w'' => ∃ u, e = .returned (.tuple #[gmV G u, .int .i64 E]) ∧ OwnR w'' w'.heap.size u TL ∧ Below w'.heap.size w' w'') := HT'
        clear HT HT' HZ H3
        go_wp2_with fail
        refine (HT2.out _ (by rw [HH.out]; exact B2)).mono ?_; rintro e w3 ⟨u, rfl, own, b3⟩
        have R3 := R2.below b3 R2.lt
        have B3 := bup B2 (Nat.le_of_eq HH.out.symm) b3
        have O3 : Hid (OwnR w3 w2.heap.size u TL) := own
        have lw := R2.lt
        obtain ⟨au, cu, eu⟩ := own.form
        obtain ⟨nu, hnu⟩ : ∃ x, TL.length = x := ⟨_, rfl⟩
        rw [hnu] at eu
        obtain ⟨g0, g1, g2⟩ := G
        clear own hnu HT2 x0 x1 x2 y0 y1 y2 lx ly X2 Y2 b3 R2 B2
        subst eu
        have d0 := R3.cell 0 _ rfl
        have f0 := R3.froz 0
        have d1 := R3.cell 1 _ rfl
        have f1 := R3.froz 1
        have d2 := R3.cell 2 _ rfl
        have f2 := R3.froz 2
        have d3 := R3.cell 3 _ rfl
        have f3 := R3.froz 3
        have lr := R3.lt
        go_wp2_with fail
        have RB := Blk.four (x0 := .int .i64 g0) (x1 := .int .i64 g1) (x2 := .int .i64 g2) (x3 := .slice au nu cu) R3
        have LB := below_four (x0 := .int .i64 g0) (x1 := .int .i64 g1) (x2 := .int .i64 g2) (x3 := .slice au nu cu) B3 (show H ≤ H + 1 + 1 by omega)
        have OB := (((O3.out.set (b := H + 1 + 1) (o := 0) (x := .int .i64 g0) (by omega)).set (b := H + 1 + 1) (o := 1) (x := .int .i64 g1) (by omega)).set (b := H + 1 + 1) (o := 2) (x := .int .i64 g2) (by omega)).set (b := H + 1 + 1) (o := 3) (x := .slice au nu cu) (by omega)
        generalize (((w3.setCell ⟨H + 1 + 1, 0, none⟩ (.int .i64 g0)).setCell ⟨H + 1 + 1, 1, none⟩ (.int .i64 g1)).setCell ⟨H + 1 + 1, 2, none⟩ (.int .i64 g2)).setCell ⟨H + 1 + 1, 3, none⟩ (.slice au nu cu) = W9 at RB LB OB ⊢
        have h0 := RB.cell 0 _ rfl
        have h1 := RB.cell 1 _ rfl
        have h2 := RB.cell 2 _ rfl
        have h3 := RB.cell 3 _ rfl
        refine bodyPost_ret (v := .tuple #[gmV ⟨g0, g1, g2⟩ (.slice au nu cu), .int .i64 E]) (by simp [results, Tryz.results10, go_sem, h0, h1, h2, h3]) rfl ⟨_, rfl, OB.mono (by rw [HH.out]; omega), by rw [HH.out]; exact LB⟩
    · have k1 := H2.out (by trivial) hz
      obtain ⟨k2, k3⟩ := HZ.out (by rw [k1]; exact hz)
      subst k1 k2 k3
      clear HT HZ H2 H3
      have hq : (E == 0) = false := by simp [hz]
      have d0 := R2.cell 0 _ rfl
      have f0 := R2.froz 0
      have d1 := R2.cell 1 _ rfl
      have f1 := R2.froz 1
      have d2 := R2.cell 2 _ rfl
      have f2 := R2.froz 2
      have d3 := R2.cell 3 _ rfl
      have f3 := R2.froz 3
      have lr := R2.lt
      go_wp2_with fail
      have RB := Blk.four (x0 := .int .i64 0) (x1 := .int .i64 0) (x2 := .int .i64 0) (x3 := .slice none 0 0) R2
      have LB := below_four (x0 := .int .i64 0) (x1 := .int .i64 0) (x2 := .int .i64 0) (x3 := .slice none 0 0) B2 (show H ≤ H + 1 + 1 by omega)
      generalize (((w2.setCell ⟨H + 1 + 1, 0, none⟩ (.int .i64 0)).setCell ⟨H + 1 + 1, 1, none⟩ (.int .i64 0)).setCell ⟨H + 1 + 1, 2, none⟩ (.int .i64 0)).setCell ⟨H + 1 + 1, 3, none⟩ (.slice none 0 0) = W9 at RB LB ⊢
      have h0 := RB.cell 0 _ rfl
      have h1 := RB.cell 1 _ rfl
      have h2 := RB.cell 2 _ rfl
      have h3 := RB.cell 3 _ rfl
      refine bodyPost_ret (v := .tuple #[gmV ⟨0, 0, 0⟩ (.slice none 0 0), .int .i64 E]) (by simp [results, Tryz.results10, go_sem, h0, h1, h2, h3]) rfl ⟨_, rfl, OwnR.nil _ _, by rw [HH.out]; exact LB⟩
  · have k1 := H1.out hz
    obtain ⟨k2, k3⟩ := HZ.out (by rw [k1]; exact hz)
    subst k1 k2 k3
    clear HT HZ H1 H2 H3 HC'
    have hq : (E == 0) = false := by simp [hz]
    have d0 := R1.cell 0 _ rfl
    have f0 := R1.froz 0
    have d1 := R1.cell 1 _ rfl
    have f1 := R1.froz 1
    have d2 := R1.cell 2 _ rfl
    have f2 := R1.froz 2
    have d3 := R1.cell 3 _ rfl
    have f3 := R1.froz 3
    have lr := R1.lt
    go_wp2_with fail
    have RB := Blk.four (x0 := .int .i64 0) (x1 := .int .i64 0) (x2 := .int .i64 0) (x3 := .slice none 0 0) R1
    have LB := below_four (x0 := .int .i64 0) (x1 := .int .i64 0) (x2 := .int .i64 0) (x3 := .slice none 0 0) B1 (show H ≤ H + 1 + 1 by omega)
    generalize (((w1.setCell ⟨H + 1 + 1, 0, none⟩ (.int .i64 0)).setCell ⟨H + 1 + 1, 1, none⟩ (.int .i64 0)).setCell ⟨H + 1 + 1, 2, none⟩ (.int .i64 0)).setCell ⟨H + 1 + 1, 3, none⟩ (.slice none 0 0) = W9 at RB LB ⊢
    have h0 := RB.cell 0 _ rfl
    have h1 := RB.cell 1 _ rfl
    have h2 := RB.cell 2 _ rfl
    have h3 := RB.cell 3 _ rfl
    refine bodyPost_ret (v := .tuple #[gmV ⟨0, 0, 0⟩ (.slice none 0 0), .int .i64 E]) (by simp [results, Tryz.results10, go_sem, h0, h1, h2, h3]) rfl ⟨_, rfl, OwnR.nil _ _, by rw [HH.out]; exact LB⟩
end Go.Proofs.YtokegpajjicehaaGreat
