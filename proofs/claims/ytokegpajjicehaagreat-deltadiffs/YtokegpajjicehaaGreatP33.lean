/-
  Texts Dl27 in one.
-/
import Derived.Test.YtokegpajjicehaaGreatP32
namespace Go.Proofs.YtokegpajjicehaaGreat
open Go.RowKit
set_option linter.unusedVariables false
set_option maxRecDepth 20000

theorem Blk.grwn9 {w w' : World} {r : Option Nat} {b : Nat} {cs : List Value} (h : Blk w b cs) (hg : w.grownBy w' r) (hne : some b ≠ r) : Blk w' b cs := by
  have e := hg.block b h.lt hne
  exact ⟨Nat.lt_of_lt_of_le h.lt hg.size, fun o ho => (World.cell?_of_block (w := w) (a := ⟨b, o, none⟩) e).trans (h.all o ho), fun o => (World.frozen?_of_block (w := w) (a := ⟨b, o, none⟩) e).trans (h.froz o)⟩
theorem nine {w : World} {b : Nat} {c0 c1 c2 c3 c4 c5 c6 c7 c8 : Value} (h : Blk w b [c0, c1, c2, c3, c4, c5, c6, c7, c8]) : w.cell? ⟨b, 0, none⟩ = some c0 ∧ w.cell? ⟨b, 1, none⟩ = some c1 ∧ w.cell? ⟨b, 2, none⟩ = some c2 ∧ w.cell? ⟨b, 3, none⟩ = some c3 ∧ w.cell? ⟨b, 4, none⟩ = some c4 ∧ w.cell? ⟨b, 5, none⟩ = some c5 ∧ w.cell? ⟨b, 6, none⟩ = some c6 ∧ w.cell? ⟨b, 7, none⟩ = some c7 ∧ w.cell? ⟨b, 8, none⟩ = some c8 :=
  ⟨h.cell 0 _ rfl, h.cell 1 _ rfl, h.cell 2 _ rfl, h.cell 3 _ rfl, h.cell 4 _ rfl, h.cell 5 _ rfl, h.cell 6 _ rfl, h.cell 7 _ rfl, h.cell 8 _ rfl⟩
set_option maxHeartbeats 16000000 in
theorem dsn_diff (w : World) (t m : Int) (v : Value) (n : Nat) (A : Nat → En) (hA : ∀ i, i < n → (A i).ok) (hv : RdE w v n A) (t' m' : Int) (v' : Value) (n' : Nat) (A' : Nat → En) (hA' : ∀ i, i < n' → (A' i).ok) (hv' : RdE w v' n' A') :
    Calls Tryz.prog 11 #[snV t m v, snV t' m' v'] w fun e w' => ∃ u, e = .returned (.tuple #[gmV (dlG t m (preE A n) t' m' (preE A' n')) u, .int .i64 (dlE t m (preE A n) t' m' (preE A' n'))]) ∧ OwnR w' w.heap.size u (dlL t m (preE A n) t' m' (preE A' n')) ∧ Below w.heap.size w w' := by
  have HR : Hid (RdE w v n A) := hv
  have HR' : Hid (RdE w v' n' A') := hv'
  have HC : Hid (∀ w', Below w.heap.size w w' → Calls Tryz.prog 18 #[snV t m v] w' fun e w'' => e = .returned (.int .i64 (snE t m (preE A n))) ∧ Below w'.heap.size w' w'') := fun w' h => dsn_check w' t m v n A (hv.below h)
  have HC' : Hid (∀ w', Below w.heap.size w w' → Calls Tryz.prog 18 #[snV t' m' v'] w' fun e w'' => e = .returned (.int .i64 (snE t' m' (preE A' n'))) ∧ Below w'.heap.size w' w'') := fun w' h => dsn_check w' t' m' v' n' A' (hv'.below h)
  have N1 : Hid (snE t m (preE A n) ≠ 0 → dlE t m (preE A n) t' m' (preE A' n') = snE t m (preE A n)) := fun h => by unfold dlE; rw [if_neg h]
  have N2 : Hid (snE t m (preE A n) = 0 → snE t' m' (preE A' n') ≠ 0 → dlE t m (preE A n) t' m' (preE A' n') = snE t' m' (preE A' n')) := fun h h' => by unfold dlE; rw [if_pos h, if_neg h']
  have N3 : Hid (snE t m (preE A n) = 0 → snE t' m' (preE A' n') = 0 → t' ≤ t → dlE t m (preE A n) t' m' (preE A' n') = 10) := fun h h' h3 => by unfold dlE; rw [if_pos h, if_pos h', if_pos h3]
  have N4 : Hid (snE t m (preE A n) = 0 → snE t' m' (preE A' n') = 0 → ¬ t' ≤ t → mrg (preE A n) (preE A' n') = none → dlE t m (preE A n) t' m' (preE A' n') = 15) := fun h h' h3 h4 => by unfold dlE; rw [if_pos h, if_pos h', if_neg h3, h4]; rfl
  have Y : Hid (snE t m (preE A n) = 0 → snE t' m' (preE A' n') = 0 → ¬ t' ≤ t → ∀ R, mrg (preE A n) (preE A' n') = some R → dlE t m (preE A n) t' m' (preE A' n') = 0 ∧ dlG t m (preE A n) t' m' (preE A' n') = ⟨t', m', t⟩ ∧ dlL t m (preE A n) t' m' (preE A' n') = R) := fun h h' h3 R h4 => by
    have e : dlE t m (preE A n) t' m' (preE A' n') = 0 := by unfold dlE; rw [if_pos h, if_pos h', if_neg h3, h4]; rfl
    exact ⟨e, by unfold dlG; rw [if_pos e], by unfold dlL; rw [if_pos e, h4]; rfl⟩
  have NZ : Hid (dlE t m (preE A n) t' m' (preE A' n') ≠ 0 → dlG t m (preE A n) t' m' (preE A' n') = ⟨0, 0, 0⟩ ∧ dlL t m (preE A n) t' m' (preE A' n') = []) := dl_no
  have FN : Hid (snE t m (preE A n) = 0 → n ≤ 64) := fun h => by have := (sn_ok h).2.2.2.1; rwa [preE_len] at this
  have FN' : Hid (snE t' m' (preE A' n') = 0 → n' ≤ 64) := fun h => by have := (sn_ok h).2.2.2.1; rwa [preE_len] at this
  obtain ⟨s, hs⟩ : ∃ s, snE t m (preE A n) = s := ⟨_, rfl⟩
  obtain ⟨s', hs'⟩ : ∃ s, snE t' m' (preE A' n') = s := ⟨_, rfl⟩
  obtain ⟨E, hE⟩ : ∃ E, dlE t m (preE A n) t' m' (preE A' n') = E := ⟨_, rfl⟩
  obtain ⟨G, hG⟩ : ∃ G, dlG t m (preE A n) t' m' (preE A' n') = G := ⟨_, rfl⟩
  obtain ⟨TL, hL⟩ : ∃ L, dlL t m (preE A n) t' m' (preE A' n') = L := ⟨_, rfl⟩
  obtain ⟨T, hT⟩ : ∃ T, mrg (preE A n) (preE A' n') = T := ⟨_, rfl⟩
  have HT0 : Hid (mgS A n A' n' [] 0 0 = T) := mgS_start.trans hT
  rw [hs, hE] at N1
  rw [hs, hs', hE] at N2 N3
  rw [hs, hs', hE, hT] at N4
  rw [hs, hs', hE, hG, hL, hT] at Y
  rw [hE, hG, hL] at NZ
  rw [hs] at HC FN
  rw [hs'] at HC' FN'
  rw [hE, hG, hL]
  clear hs hs' hE hG hL hT hv hv'
  obtain ⟨ao, cap, e0, hc, hm, _⟩ := HR.out
  subst e0
  obtain ⟨ao', cap', e0, hc', hm', _⟩ := HR'.out
  subst e0
  go_enter Tryz.func11, Tryz.ntmps11
  go_wp2_with fail
  generalize hW : ((w.alloc (.cells #[.int .i64 t, .int .i64 m, .slice ao n cap] 24)).alloc (.cells #[.int .i64 t', .int .i64 m', .slice ao' n' cap'] 24)).alloc (.cells #[.int .i64 0, .int .i64 0, .int .i64 0, .slice none 0 0] 29) = W
  obtain ⟨X0, P0, Z0, b0, -⟩ := boxed3 hW
  obtain ⟨H, hH⟩ : ∃ H, w.heap.size = H := ⟨_, rfl⟩
  have HH : Hid (w.heap.size = H) := hH
  clear hW
  refine (HC.out _ b0).mono ?_; rintro e w1 ⟨rfl, b1⟩
  rw [hH] at X0 P0 Z0 b0
  rw [hH]
  have X1 := X0.below b1 X0.lt
  have P1 := P0.below b1 P0.lt
  have Z1 := Z0.below b1 Z0.lt
  have B1 : Below H w w1 := bup b0 (Nat.le_of_eq hH.symm) b1
  clear hH HC X0 P0 Z0 b0 b1
  by_cases hz : s = 0
  · subst hz
    have x_p0 := P1.cell 0 _ rfl
    have x_p1 := P1.cell 1 _ rfl
    have x_p2 := P1.cell 2 _ rfl
    have lp1 := P1.lt
    go_wp2_with fail
    refine (HC'.out _ (by rw [HH.out]; exact B1)).mono ?_; rintro e w2 ⟨rfl, b2⟩
    have X2 := X1.below b2 X1.lt
    have P2 := P1.below b2 P1.lt
    have Z2 := Z1.below b2 Z1.lt
    have B2 := bup B1 (Nat.le_of_eq HH.out.symm) b2
    clear X1 P1 Z1 B1 b2 x_p0 x_p1 x_p2 lp1
    by_cases hz' : s' = 0
    · subst hz'
      by_cases ht : t' ≤ t
      · have e1 := N3.out (by trivial) (by trivial) ht
        subst e1
        obtain ⟨e2, e3⟩ := NZ.out (by decide)
        subst e2 e3
        clear N1 N2 N3 N4 Y NZ FN FN' HC'
        have x0 := X2.cell 0 _ rfl
        have lx := X2.lt
        have p0 := P2.cell 0 _ rfl
        have lp := P2.lt
        have d0 := Z2.cell 0 _ rfl
        have f0 := Z2.froz 0
        have d1 := Z2.cell 1 _ rfl
        have f1 := Z2.froz 1
        have d2 := Z2.cell 2 _ rfl
        have f2 := Z2.froz 2
        have d3 := Z2.cell 3 _ rfl
        have f3 := Z2.froz 3
        have lr := Z2.lt
        go_wp2_with fail
        have RB := blk4 (x0 := .int .i64 0) (x1 := .int .i64 0) (x2 := .int .i64 0) (x3 := .slice none 0 0) Z2
        have LB := below4 (x0 := .int .i64 0) (x1 := .int .i64 0) (x2 := .int .i64 0) (x3 := .slice none 0 0) B2 (show H ≤ H + 1 + 1 by omega)
        generalize (((w2.setCell ⟨H + 1 + 1, 0, none⟩ (.int .i64 0)).setCell ⟨H + 1 + 1, 1, none⟩ (.int .i64 0)).setCell ⟨H + 1 + 1, 2, none⟩ (.int .i64 0)).setCell ⟨H + 1 + 1, 3, none⟩ (.slice none 0 0) = W9 at RB LB ⊢
        have h0 := RB.cell 0 _ rfl
        have h1 := RB.cell 1 _ rfl
        have h2 := RB.cell 2 _ rfl
        have h3 := RB.cell 3 _ rfl
        refine bodyPost_ret (v := .tuple #[gmV ⟨0, 0, 0⟩ (.slice none 0 0), .int .i64 10]) (by simp [results, Tryz.results11, go_sem, h0, h1, h2, h3]) rfl ⟨_, rfl, OwnR.nil _ _, by rw [HH.out]; exact LB⟩
      · have M4 : Hid (T = none → E = 15) := N4.out (by trivial) (by trivial) (by omega)
        have MY : Hid (∀ R, T = some R → E = 0 ∧ G = ⟨t', m', t⟩ ∧ TL = R) := Y.out (by trivial) (by trivial) (by omega)
        have n64 := FN.out (by trivial)
        have n64' := FN'.out (by trivial)
        clear N1 N2 N3 N4 Y FN FN' HC'
        have x0 := X2.cell 0 _ rfl
        have lx := X2.lt
        have p0 := P2.cell 0 _ rfl
        have p1 := P2.cell 1 _ rfl
        have lp := P2.lt
        go_upto_region 9 with fail
        generalize hV : w2.alloc (.cells #[.int .i64 t', .int .i64 m', .int .i64 t, .slice none 0 0] 29) = W3
        obtain ⟨K3, bn, -⟩ := boxed hV
        obtain ⟨K, hK⟩ : ∃ x, w2.heap.size = x := ⟨_, rfl⟩
        have hHK : H + 1 + 1 < K := by rw [← hK]; exact Z2.lt
        rw [hK] at K3
        rw [hK]
        have X3 := X2.below bn X2.lt
        have P3 := P2.below bn P2.lt
        have Z3 := Z2.below bn Z2.lt
        have B3 := bup B2 (Nat.le_of_eq HH.out.symm) bn
        clear x0 lx p0 p1 lp hV hK bn X2 P2 Z2 B2
        go_wp2_with fail
        go_loopw [8, 9] (fun vi vk wr => ∃ (i k : Nat) (S : List Rc) (ov : Value), i ≤ n ∧ k ≤ n' ∧ vi = .int .i64 i ∧ vk = .int .i64 k ∧ mgS A n A' n' S i k = T ∧ S.length ≤ i + k ∧ Blk wr K [.int .i64 t', .int .i64 m', .int .i64 t, ov] ∧ OwnR wr (K + 1) ov S ∧ Blk wr H [.int .i64 t, .int .i64 m, .slice ao n cap] ∧ Blk wr (H + 1) [.int .i64 t', .int .i64 m', .slice ao' n' cap'] ∧ Blk wr (H + 1 + 1) [.int .i64 0, .int .i64 0, .int .i64 0, .slice none 0 0] ∧ Below H w wr) (fun vi vk _ => (n - (intOf vi).toNat) + (n' - (intOf vk).toNat))
        case atStart => exact ⟨0, 0, [], _, by omega, by omega, rfl, rfl, HT0.out, by simp, K3, OwnR.nil _ _, X3, P3, Z3, B3⟩
        case round =>
          obtain ⟨i, k, S, ov, hi, hk, rfl, rfl, q0, hS, K4, q3, X4, P4, Z4, B4⟩ := hrel
          clear K3 X3 P3 Z3 B3
          have O4 : Hid (OwnR wr (K + 1) ov S) := q3
          have HS : Hid (mgS A n A' n' S i k = T) := q0
          clear q0 q3 HT0
          have x2 := X4.cell 2 _ rfl
          have lx := X4.lt
          have p2 := P4.cell 2 _ rfl
          have lp := P4.lt
          by_cases hik : i < n ∨ k < n'
          · by_cases hkn : k < n'
            · obtain ⟨g2, o2, e2, l2, c0'⟩ := rdE_at HR'.out hkn
              rw [HH.out] at l2
              have c2 : ∀ j x, (entC (A' k))[j]? = some x → wr.cell? ⟨g2, o2 + k * 9 + j, none⟩ = some x := fun j x h => (B4.cell (p := ⟨g2, o2 + k * 9 + j, none⟩) l2).trans (c0' j x h)
              clear c0'
              by_cases hin : i < n
              · obtain ⟨g1, o1, e1, l1, c0⟩ := rdE_at HR.out hin
                rw [HH.out] at l1
                have c1 : ∀ j x, (entC (A i))[j]? = some x → wr.cell? ⟨g1, o1 + i * 9 + j, none⟩ = some x := fun j x h => (B4.cell (p := ⟨g1, o1 + i * 9 + j, none⟩) l1).trans (c0 j x h)
                clear c0
                by_cases hlt : (A i).i < (A' k).i
                · have NX : Hid (mgS A n A' n' (S ++ [remR (A i)]) (i + 1) k = T) := (mgS_rem hin (fun _ => hlt)).symm.trans HS.out
                  obtain ⟨x, hx⟩ : ∃ x, A i = x := ⟨_, rfl⟩
                  obtain ⟨x', hx'⟩ : ∃ x, A' k = x := ⟨_, rfl⟩
                  rw [hx] at NX c1 hlt
                  rw [hx'] at c2 hlt
                  subst e1 e2
                  have HX : Hid (A i = x ∧ A' k = x') := ⟨hx, hx'⟩
                  clear hx hx' HS
                  have y0 := c1 0 _ rfl
                  have v0 := c2 0 _ rfl
                  simp only [Nat.add_zero] at y0 v0
                  clear c2
                  have hne : ¬ k = n' := by omega
                  have hne' : ((k : Int) == (n' : Int)) = false := by simp; omega
                  go_wp2_with fail
                  go_quiet (fail)
                  have K5 := K4.drewN nq
                  have X5 := X4.drewN nq
                  have P5 := P4.drewN nq
                  have Z5 := Z4.drewN nq
                  have B5 := below_drewN B4 nq
                  have O5 : Hid (OwnR (wr.drewN nq) (K + 1) ov S) := O4.out
                  have z0 : (wr.drewN nq).cell? ⟨g1, o1 + i * 9, none⟩ = some (.int .i64 x.i) := y0
                  clear K4 X4 P4 Z4 B4 O4 y0 x2 lx p2 lp c1
                  generalize wr.drewN nq = wd at K5 X5 P5 Z5 B5 O5 z0 ⊢
                  obtain ⟨oa, oc, rfl⟩ := O5.out.form
                  have k3 := K5.cell 3 _ rfl
                  have kf3 := K5.froz 3
                  have lk := K5.lt
                  have x2 := X5.cell 2 _ rfl
                  have lx := X5.lt
                  go_upto_region 13 with fail
                  go_region_law (first | (refine growR_step rfl (some 86) rfl _ _ rfl (K + 1) _ S rfl (OwnR.below (w := wd.drew) O5.out ((Below.refl _ _).alloc (Nat.le_refl _) _)) _ (⟨2, x.i, 0, 0, 0, 0, 0, 0, 0⟩ : Rc) rfl (fun j u hu => (Blk.new wd.drew (recA (⟨2, x.i, 0, 0, 0, 0, 0, 0, 0⟩ : Rc)) 79 rfl).cell j u hu) (by omega) (by first | omega | (simp; omega)) ?_; intro u6 w6 own6 gr6; obtain ⟨ao6, cap6, e6⟩ := own6.form; obtain ⟨n6, hn6⟩ : ∃ n6, (S ++ [(⟨2, x.i, 0, 0, 0, 0, 0, 0, 0⟩ : Rc)]).length = n6 := ⟨_, rfl⟩; rw [hn6] at e6; clear hn6; subst e6; (try simp only [Act.put, List.setIfInBounds_toArray, List.set_cons_zero, List.set_cons_succ]); have K6 := (K5.drew.alloc _).below gr6.below (by omega); have X6 := (X5.drew.alloc _).below gr6.below (by omega); have P6 := (P5.drew.alloc _).below gr6.below (by omega); have Z6 := (Z5.drew.alloc _).below gr6.below (by omega); have B6 : Below H w w6 := (B5.drew.alloc (by have := B5.size; rw [HH.out] at this; exact this) _).trans (gr6.below.mono (by omega)); have O6 : Hid (OwnR w6 (K + 1) (Value.slice ao6 n6 cap6) (S ++ [(⟨2, x.i, 0, 0, 0, 0, 0, 0, 0⟩ : Rc)])) := own6; clear own6 gr6; have k63 := K6.cell 3 _ rfl; have kf63 := K6.froz 3; have lk6 := K6.lt))
                  all_goals (go_wp2_with fail)
                  all_goals (go_roundw
                             case rel => exact ⟨i + 1, k, S ++ [(⟨2, x.i, 0, 0, 0, 0, 0, 0, 0⟩ : Rc)], _, by omega, by omega, by go_num, by go_num, NX.out, by rw [List.length_append]; simp; omega, K6.set 3 _ (by simp), OwnR.set O6.out (by omega), X6.other (p := ⟨K, 3, none⟩) (fun h' => by have h2 : K = H := h'; omega) _, P6.other (p := ⟨K, 3, none⟩) (fun h' => by have h2 : K = H + 1 := h'; omega) _, Z6.other (p := ⟨K, 3, none⟩) (fun h' => by have h2 : K = H + 1 + 1 := h'; omega) _, B6.setCell (by show H ≤ K; omega) _⟩
                             case measure => simp [intOf]; omega)
                · by_cases hlt2 : (A' k).i < (A i).i
                  · obtain ⟨x', hx'⟩ : ∃ x, A' k = x := ⟨_, rfl⟩
                    have NPUT : Hid (x'.g = 0 → mgS A n A' n' (S ++ [putR x']) i (k + 1) = T) := fun h => by rw [← hx'] at h ⊢; exact (mgS_put hkn (fun _ => hlt2) h).symm.trans HS.out
                    have NNONE : Hid (x'.g ≠ 0 → T = none) := fun h => by rw [← hx'] at h; exact HS.out.symm.trans (mgS_none hkn (fun _ => hlt2) h)
                    obtain ⟨x, hx⟩ : ∃ x, A i = x := ⟨_, rfl⟩
                    rw [hx] at c1 hlt hlt2
                    rw [hx'] at c2 hlt hlt2
                    clear hx hx' HS
                    obtain ⟨a0, a1, a2, a3, a4, a5, a6, a7, a8⟩ := x
                    subst e1
                    obtain ⟨b0, b1, b2, b3, b4, b5, b6, b7, b8⟩ := x'
                    subst e2
                    have u0 := c2 0 _ rfl
                    have u1 := c2 1 _ rfl
                    have u2 := c2 2 _ rfl
                    have u3 := c2 3 _ rfl
                    have u4 := c2 4 _ rfl
                    have u5 := c2 5 _ rfl
                    have u6 := c2 6 _ rfl
                    have u7 := c2 7 _ rfl
                    have u8 := c2 8 _ rfl
                    simp only [Nat.add_zero] at u0
                    change Hid (b8 = 0 → mgS A n A' n' (S ++ [(⟨0, b0, b1, b2, b3, b4, b5, b6, b7⟩ : Rc)]) i (k + 1) = T) at NPUT
                    change Hid (b8 ≠ 0 → T = none) at NNONE
                    change ¬ a0 < b0 at hlt
                    have PU : Hid (∀ w', Calls Tryz.prog 36 #[entV ⟨b0, b1, b2, b3, b4, b5, b6, b7, b8⟩] w' fun e w'' => e = .returned (recV ⟨0, b0, b1, b2, b3, b4, b5, b6, b7⟩) ∧ Below w'.heap.size w' w'') := fun w' => dsn_put w' _
                    change b0 < a0 at hlt2
                    have hne : ¬ k = n' := by omega
                    have hne' : ((k : Int) == (n' : Int)) = false := by simp; omega
                    have hd1 : decide (a0 < b0) = false := by simpa using hlt
                    have y0 := c1 0 _ rfl
                    simp only [Nat.add_zero] at y0
                    have hin1 : (i : Int) < (n : Int) := by omega
                    go_wp2_with fail
                    go_quiet (fail)
                    have K5 := K4.drewN nq
                    have X5 := X4.drewN nq
                    have P5 := P4.drewN nq
                    have Z5 := Z4.drewN nq
                    have B5 := below_drewN B4 nq
                    have O5 : Hid (OwnR (wr.drewN nq) (K + 1) ov S) := O4.out
                    have c2d : ∀ j x, (entC ⟨b0, b1, b2, b3, b4, b5, b6, b7, b8⟩)[j]? = some x → (wr.drewN nq).cell? ⟨g2, o2 + k * 9 + j, none⟩ = some x := c2
                    have c1d : ∀ j x, (entC ⟨a0, a1, a2, a3, a4, a5, a6, a7, a8⟩)[j]? = some x → (wr.drewN nq).cell? ⟨g1, o1 + i * 9 + j, none⟩ = some x := c1
                    clear K4 X4 P4 Z4 B4 O4 u0 u1 u2 u3 u4 u5 u6 u7 u8 x2 lx p2 lp c2 y0 c1
                    generalize wr.drewN nq = wd at K5 X5 P5 Z5 B5 O5 c2d c1d ⊢
                    have u0 := c2d 0 _ rfl
                    have u1 := c2d 1 _ rfl
                    have u2 := c2d 2 _ rfl
                    have u3 := c2d 3 _ rfl
                    have u4 := c2d 4 _ rfl
                    have u5 := c2d 5 _ rfl
                    have u6 := c2d 6 _ rfl
                    have u7 := c2d 7 _ rfl
                    have u8 := c2d 8 _ rfl
                    simp only [Nat.add_zero] at u0
                    have x2 := X5.cell 2 _ rfl
                    have lx := X5.lt
                    have p2 := P5.cell 2 _ rfl
                    have lp := P5.lt
                    go_wp2_with fail
                    generalize hV : wd.alloc (.cells #[.int .i64 b0, .int .i64 b1, .int .i64 b2, .int .i64 b3, .int .i64 b4, .int .i64 b5, .int .i64 b6, .int .u16 b7, .int .u8 b8] 40) = W6
                    obtain ⟨E6, bn, -⟩ := boxed hV
                    obtain ⟨Q, hQ⟩ : ∃ q, wd.heap.size = q := ⟨_, rfl⟩
                    have hKQ : K < Q := by rw [← hQ]; exact K5.lt
                    rw [hQ] at E6
                    rw [hQ]
                    have NEQ : Hid (some Q ≠ ov.ownBlock) := fun e => by have := (World.ownsRow.lt O5.out Q e.symm).2; omega
                    have K6 := K5.below bn K5.lt
                    have X6 := X5.below bn X5.lt
                    have P6 := P5.below bn P5.lt
                    have Z6 := Z5.below bn Z5.lt
                    have B6 := bup B5 (Nat.le_of_eq HH.out.symm) bn
                    have O6 : Hid (OwnR W6 (K + 1) ov S) := OwnR.below O5.out bn
                    clear hV hQ
                    have lx5 : H < wd.heap.size := X5.lt
                    have c1e : ∀ j x, (entC ⟨a0, a1, a2, a3, a4, a5, a6, a7, a8⟩)[j]? = some x → W6.cell? ⟨g1, o1 + i * 9 + j, none⟩ = some x := fun j x h => (bn.cell (p := ⟨g1, o1 + i * 9 + j, none⟩) (show g1 < wd.heap.size by omega)).trans (c1d j x h)
                    clear K5 X5 P5 Z5 B5 O5 u0 u1 u2 u3 u4 u5 u6 u7 u8 x2 lx p2 lp bn c2d
                    have x2 := X6.cell 2 _ rfl
                    have lx := X6.lt
                    have q0 := E6.cell 0 _ rfl
                    have lq := E6.lt
                    have y0 := c1e 0 _ rfl
                    simp only [Nat.add_zero] at y0
                    have hin2 : ¬ i = n := by omega
                    have hin3 : ((i : Int) == (n : Int)) = false := by simp; omega
                    have hd2 : decide (b0 < a0) = true := by simpa using hlt2
                    go_quiet (fail)
                    have K7 := K6.drewN nq
                    have X7 := X6.drewN nq
                    have P7 := P6.drewN nq
                    have Z7 := Z6.drewN nq
                    have E7 := E6.drewN nq
                    have B7 := below_drewN B6 nq
                    have O7 : Hid (OwnR (W6.drewN nq) (K + 1) ov S) := O6.out
                    have c1f : ∀ j x, (entC ⟨a0, a1, a2, a3, a4, a5, a6, a7, a8⟩)[j]? = some x → (W6.drewN nq).cell? ⟨g1, o1 + i * 9 + j, none⟩ = some x := c1e
                    clear K6 X6 P6 Z6 B6 O6 E6 x2 lx q0 lq
                    generalize W6.drewN nq = w7 at K7 X7 P7 Z7 B7 O7 E7 c1f ⊢
                    have x2 := X7.cell 2 _ rfl
                    have lx := X7.lt
                    have q0 := E7.cell 0 _ rfl
                    have q1 := E7.cell 1 _ rfl
                    have q2 := E7.cell 2 _ rfl
                    have q3 := E7.cell 3 _ rfl
                    have q4 := E7.cell 4 _ rfl
                    have q5 := E7.cell 5 _ rfl
                    have q6 := E7.cell 6 _ rfl
                    have q7 := E7.cell 7 _ rfl
                    have q8 := E7.cell 8 _ rfl
                    have lq := E7.lt
                    clear c1f
                    by_cases hg : b8 = 0
                    · subst hg
                      have NP : Hid (mgS A n A' n' (S ++ [(⟨0, b0, b1, b2, b3, b4, b5, b6, b7⟩ : Rc)]) i (k + 1) = T) := NPUT.out rfl
                      obtain ⟨oa, oc, rfl⟩ := O7.out.form
                      obtain ⟨ol, hol⟩ : ∃ ol, S.length = ol := ⟨_, rfl⟩
                      rw [hol] at O7 K7 NEQ
                      have k3 := K7.cell 3 _ rfl
                      have kf3 := K7.froz 3
                      have lk := K7.lt
                      go_upto_region 20 with fail
                      have hq7 := nine E7.drew
                      have gQ : K ≠ Q := by omega
                      go_region_law (first | (refine call_step rfl (some 120) rfl 36 (.tmp 119) 40 rfl (enters_of Tryz.func36 (by kernel_rfl) rfl) (entV ⟨b0, b1, b2, b3, b4, b5, b6, b7, 0⟩) rfl ((PU.out _).mono ?_); rintro e w8 ⟨rfl, bb8⟩; refine ⟨_, rfl, ?_⟩; (try simp only [Act.put, List.setIfInBounds_toArray, List.set_cons_zero, List.set_cons_succ]); have K8 := Blk.below K7.drew bb8 K7.drew.lt; have X8 := Blk.below X7.drew bb8 X7.drew.lt; have P8 := Blk.below P7.drew bb8 P7.drew.lt; have Z8 := Blk.below Z7.drew bb8 Z7.drew.lt; have B8 : Below H w w8 := bup B7.drew (Nat.le_of_eq HH.out.symm) bb8; have O8 : Hid (OwnR w8 (K + 1) (.slice oa ol oc) S) := OwnR.below (w := w7.drew) O7.out bb8; have k3_b := K8.cell 3 _ rfl; have kf3_b := K8.froz 3; have lk_b := K8.lt; have E8 := Blk.below E7.drew bb8 E7.drew.lt; have hq8 := nine E8; have E8c := E8.alloc (.cells (recA (⟨0, b0, b1, b2, b3, b4, b5, b6, b7⟩ : Rc)) 79); have hq8c := nine E8c; have k3_c := (K8.alloc (.cells (recA (⟨0, b0, b1, b2, b3, b4, b5, b6, b7⟩ : Rc)) 79)).cell 3 _ rfl) | (refine growR_step rfl (some 122) rfl _ _ rfl (K + 1) _ S rfl (OwnR.below (w := w8) O8.out ((Below.refl _ _).alloc (Nat.le_refl _) _)) _ (⟨0, b0, b1, b2, b3, b4, b5, b6, b7⟩ : Rc) rfl (fun j u hu => (Blk.new w8 (recA (⟨0, b0, b1, b2, b3, b4, b5, b6, b7⟩ : Rc)) 79 rfl).cell j u hu) (by omega) (by first | omega | (simp; omega)) ?_; intro u9 w9 own9 gr9; obtain ⟨ao9, cap9, e9⟩ := own9.form; obtain ⟨n9, hn9⟩ : ∃ n9, (S ++ [(⟨0, b0, b1, b2, b3, b4, b5, b6, b7⟩ : Rc)]).length = n9 := ⟨_, rfl⟩; rw [hn9] at e9; clear hn9; subst e9; (try simp only [Act.put, List.setIfInBounds_toArray, List.set_cons_zero, List.set_cons_succ]); have K9 := (K8.alloc _).below gr9.below (by omega); have X9 := (X8.alloc _).below gr9.below (by omega); have P9 := (P8.alloc _).below gr9.below (by omega); have Z9 := (Z8.alloc _).below gr9.below (by omega); have B9 : Below H w w9 := (B8.alloc (by have := B8.size; rw [HH.out] at this; exact this) _).trans (gr9.below.mono (by omega)); have O9 : Hid (OwnR w9 (K + 1) (Value.slice ao9 n9 cap9) (S ++ [(⟨0, b0, b1, b2, b3, b4, b5, b6, b7⟩ : Rc)])) := own9; have hq9 := nine (E8c.grwn9 gr9.by_ NEQ.out); clear own9 gr9; have k93 := K9.cell 3 _ rfl; have kf93 := K9.froz 3; have lk9 := K9.lt))
                      all_goals (go_wp2_with fail)
                      all_goals (go_roundw
                                 case rel => exact ⟨i, k + 1, S ++ [(⟨0, b0, b1, b2, b3, b4, b5, b6, b7⟩ : Rc)], _, by omega, by omega, by go_num, by go_num, NP.out, by rw [List.length_append]; simp; omega, K9.set 3 _ (by simp), OwnR.set O9.out (by omega), X9.other (p := ⟨K, 3, none⟩) (fun h' => by have h2 : K = H := h'; omega) _, P9.other (p := ⟨K, 3, none⟩) (fun h' => by have h2 : K = H + 1 := h'; omega) _, Z9.other (p := ⟨K, 3, none⟩) (fun h' => by have h2 : K = H + 1 + 1 := h'; omega) _, B9.setCell (by show H ≤ K; omega) _⟩
                                 case measure => simp [intOf]; omega)
                    · have hg1 : (b8 != 0) = true := by simpa using hg
                      have hg2 : (b8 == 0) = false := by simpa using hg
                      have TN : T = none := NNONE.out hg
                      have e1 := M4.out TN
                      subst e1
                      obtain ⟨e2, e3⟩ := NZ.out (by decide)
                      subst e2 e3
                      have d0 := Z7.cell 0 _ rfl
                      have f0 := Z7.froz 0
                      have d1 := Z7.cell 1 _ rfl
                      have f1 := Z7.froz 1
                      have d2 := Z7.cell 2 _ rfl
                      have f2 := Z7.froz 2
                      have d3 := Z7.cell 3 _ rfl
                      have f3 := Z7.froz 3
                      have lr := Z7.lt
                      go_wp2_with fail
                      have RB := blk4 (x0 := .int .i64 0) (x1 := .int .i64 0) (x2 := .int .i64 0) (x3 := .slice none 0 0) Z7
                      have LB := below4 (x0 := .int .i64 0) (x1 := .int .i64 0) (x2 := .int .i64 0) (x3 := .slice none 0 0) B7 (show H ≤ H + 1 + 1 by omega)
                      generalize (((w7.setCell ⟨H + 1 + 1, 0, none⟩ (.int .i64 0)).setCell ⟨H + 1 + 1, 1, none⟩ (.int .i64 0)).setCell ⟨H + 1 + 1, 2, none⟩ (.int .i64 0)).setCell ⟨H + 1 + 1, 3, none⟩ (.slice none 0 0) = W9 at RB LB ⊢
                      have h0 := RB.cell 0 _ rfl
                      have h1 := RB.cell 1 _ rfl
                      have h2 := RB.cell 2 _ rfl
                      have h3 := RB.cell 3 _ rfl
                      refine bodyPost_ret (v := .tuple #[gmV ⟨0, 0, 0⟩ (.slice none 0 0), .int .i64 15]) (by simp [results, Tryz.results11, go_sem, h0, h1, h2, h3]) rfl ⟨_, rfl, OwnR.nil _ _, by rw [HH.out]; exact LB⟩
                  · obtain ⟨x', hx'⟩ : ∃ x, A' k = x := ⟨_, rfl⟩
                    have heq : (A i).i = (A' k).i := by omega
                    obtain ⟨x, hx⟩ : ∃ x, A i = x := ⟨_, rfl⟩
                    have NFAR : Hid (x'.g ≠ x.g ∧ x'.g ≠ (x.g + 1) % 256 → T = none) := fun h => by rw [← hx', ← hx] at h; exact HS.out.symm.trans (mgS_far hin hkn heq h)
                    have NSAME : Hid (¬ (x'.g ≠ x.g ∧ x'.g ≠ (x.g + 1) % 256) → entB x x' = true → mgS A n A' n' S (i + 1) (k + 1) = T) := fun h h' => by rw [← hx', ← hx] at h h'; exact (mgS_same hin hkn heq h h').symm.trans HS.out
                    have NDIF : Hid (¬ (x'.g ≠ x.g ∧ x'.g ≠ (x.g + 1) % 256) → entB x x' = false → mgS A n A' n' (S ++ [difR x x']) (i + 1) (k + 1) = T) := fun h h' => by rw [← hx', ← hx] at h h' ⊢; exact (mgS_dif hin hkn heq h h').symm.trans HS.out
                    have DC : Hid (∀ w', Calls Tryz.prog 37 #[entV x, entV x'] w' fun e w'' => e = .returned (.tuple #[recV (difR x x'), .bool (!entB x x')]) ∧ Below w'.heap.size w' w'') := fun w' => doc_diff w' x x'
                    have hga : 0 ≤ x.g ∧ x.g ≤ 255 := by rw [← hx]; exact (hA i hin).g
                    rw [hx] at c1 hlt hlt2 heq
                    rw [hx'] at c2 hlt hlt2 heq
                    clear hx hx' HS
                    obtain ⟨⟨r0, r1, r2, r3, r4, r5, r6, r7, r8⟩, hr⟩ : ∃ r, difR x x' = r := ⟨_, rfl⟩
                    obtain ⟨q, hq⟩ : ∃ q, entB x x' = q := ⟨_, rfl⟩
                    rw [hr, hq] at DC
                    rw [hq] at NSAME
                    rw [hq, hr] at NDIF
                    clear hr hq
                    obtain ⟨a0, a1, a2, a3, a4, a5, a6, a7, a8⟩ := x
                    subst e1
                    obtain ⟨b0, b1, b2, b3, b4, b5, b6, b7, b8⟩ := x'
                    subst e2
                    have u0 := c2 0 _ rfl
                    have u1 := c2 1 _ rfl
                    have u2 := c2 2 _ rfl
                    have u3 := c2 3 _ rfl
                    have u4 := c2 4 _ rfl
                    have u5 := c2 5 _ rfl
                    have u6 := c2 6 _ rfl
                    have u7 := c2 7 _ rfl
                    have u8 := c2 8 _ rfl
                    simp only [Nat.add_zero] at u0
                    change Hid (b8 ≠ a8 ∧ b8 ≠ (a8 + 1) % 256 → T = none) at NFAR
                    change Hid (¬ (b8 ≠ a8 ∧ b8 ≠ (a8 + 1) % 256) → q = true → mgS A n A' n' S (i + 1) (k + 1) = T) at NSAME
                    change Hid (¬ (b8 ≠ a8 ∧ b8 ≠ (a8 + 1) % 256) → q = false → mgS A n A' n' (S ++ [(⟨r0, r1, r2, r3, r4, r5, r6, r7, r8⟩ : Rc)]) (i + 1) (k + 1) = T) at NDIF
                    change 0 ≤ a8 ∧ a8 ≤ 255 at hga
                    change ¬ a0 < b0 at hlt
                    change ¬ b0 < a0 at hlt2
                    clear heq
                    have hne : ¬ k = n' := by omega
                    have hne' : ((k : Int) == (n' : Int)) = false := by simp; omega
                    have hd1 : decide (a0 < b0) = false := by simpa using hlt
                    have y0 := c1 0 _ rfl
                    simp only [Nat.add_zero] at y0
                    have hin1 : (i : Int) < (n : Int) := by omega
                    go_wp2_with fail
                    go_quiet (fail)
                    have K5 := K4.drewN nq
                    have X5 := X4.drewN nq
                    have P5 := P4.drewN nq
                    have Z5 := Z4.drewN nq
                    have B5 := below_drewN B4 nq
                    have O5 : Hid (OwnR (wr.drewN nq) (K + 1) ov S) := O4.out
                    have c2d : ∀ j x, (entC ⟨b0, b1, b2, b3, b4, b5, b6, b7, b8⟩)[j]? = some x → (wr.drewN nq).cell? ⟨g2, o2 + k * 9 + j, none⟩ = some x := c2
                    have c1d : ∀ j x, (entC ⟨a0, a1, a2, a3, a4, a5, a6, a7, a8⟩)[j]? = some x → (wr.drewN nq).cell? ⟨g1, o1 + i * 9 + j, none⟩ = some x := c1
                    clear K4 X4 P4 Z4 B4 O4 u0 u1 u2 u3 u4 u5 u6 u7 u8 x2 lx p2 lp c2 y0 c1
                    generalize wr.drewN nq = wd at K5 X5 P5 Z5 B5 O5 c2d c1d ⊢
                    have u0 := c2d 0 _ rfl
                    have u1 := c2d 1 _ rfl
                    have u2 := c2d 2 _ rfl
                    have u3 := c2d 3 _ rfl
                    have u4 := c2d 4 _ rfl
                    have u5 := c2d 5 _ rfl
                    have u6 := c2d 6 _ rfl
                    have u7 := c2d 7 _ rfl
                    have u8 := c2d 8 _ rfl
                    simp only [Nat.add_zero] at u0
                    have x2 := X5.cell 2 _ rfl
                    have lx := X5.lt
                    have p2 := P5.cell 2 _ rfl
                    have lp := P5.lt
                    go_wp2_with fail
                    generalize hV : wd.alloc (.cells #[.int .i64 b0, .int .i64 b1, .int .i64 b2, .int .i64 b3, .int .i64 b4, .int .i64 b5, .int .i64 b6, .int .u16 b7, .int .u8 b8] 40) = W6
                    obtain ⟨E6, bn, -⟩ := boxed hV
                    obtain ⟨Q, hQ⟩ : ∃ q, wd.heap.size = q := ⟨_, rfl⟩
                    have hKQ : K < Q := by rw [← hQ]; exact K5.lt
                    rw [hQ] at E6
                    rw [hQ]
                    have NEQ : Hid (some Q ≠ ov.ownBlock) := fun e => by have := (World.ownsRow.lt O5.out Q e.symm).2; omega
                    have K6 := K5.below bn K5.lt
                    have X6 := X5.below bn X5.lt
                    have P6 := P5.below bn P5.lt
                    have Z6 := Z5.below bn Z5.lt
                    have B6 := bup B5 (Nat.le_of_eq HH.out.symm) bn
                    have O6 : Hid (OwnR W6 (K + 1) ov S) := OwnR.below O5.out bn
                    clear hV hQ
                    have lx5 : H < wd.heap.size := X5.lt
                    have c1e : ∀ j x, (entC ⟨a0, a1, a2, a3, a4, a5, a6, a7, a8⟩)[j]? = some x → W6.cell? ⟨g1, o1 + i * 9 + j, none⟩ = some x := fun j x h => (bn.cell (p := ⟨g1, o1 + i * 9 + j, none⟩) (show g1 < wd.heap.size by omega)).trans (c1d j x h)
                    clear K5 X5 P5 Z5 B5 O5 u0 u1 u2 u3 u4 u5 u6 u7 u8 x2 lx p2 lp bn c2d
                    have x2 := X6.cell 2 _ rfl
                    have lx := X6.lt
                    have q0 := E6.cell 0 _ rfl
                    have lq := E6.lt
                    have y0 := c1e 0 _ rfl
                    simp only [Nat.add_zero] at y0
                    have hin2 : ¬ i = n := by omega
                    have hin3 : ((i : Int) == (n : Int)) = false := by simp; omega
                    have hd2 : decide (b0 < a0) = false := by simpa using hlt2
                    go_quiet (fail)
                    have K7 := K6.drewN nq
                    have X7 := X6.drewN nq
                    have P7 := P6.drewN nq
                    have Z7 := Z6.drewN nq
                    have E7 := E6.drewN nq
                    have B7 := below_drewN B6 nq
                    have O7 : Hid (OwnR (W6.drewN nq) (K + 1) ov S) := O6.out
                    have c1f : ∀ j x, (entC ⟨a0, a1, a2, a3, a4, a5, a6, a7, a8⟩)[j]? = some x → (W6.drewN nq).cell? ⟨g1, o1 + i * 9 + j, none⟩ = some x := c1e
                    clear K6 X6 P6 Z6 B6 O6 E6 x2 lx q0 lq
                    generalize W6.drewN nq = w7 at K7 X7 P7 Z7 B7 O7 E7 c1f ⊢
                    have x2 := X7.cell 2 _ rfl
                    have lx := X7.lt
                    have q0 := E7.cell 0 _ rfl
                    have q1 := E7.cell 1 _ rfl
                    have q2 := E7.cell 2 _ rfl
                    have q3 := E7.cell 3 _ rfl
                    have q4 := E7.cell 4 _ rfl
                    have q5 := E7.cell 5 _ rfl
                    have q6 := E7.cell 6 _ rfl
                    have q7 := E7.cell 7 _ rfl
                    have q8 := E7.cell 8 _ rfl
                    have lq := E7.lt
                    have y0 := c1f 0 _ rfl
                    have y1 := c1f 1 _ rfl
                    have y2 := c1f 2 _ rfl
                    have y3 := c1f 3 _ rfl
                    have y4 := c1f 4 _ rfl
                    have y5 := c1f 5 _ rfl
                    have y6 := c1f 6 _ rfl
                    have y7 := c1f 7 _ rfl
                    have y8 := c1f 8 _ rfl
                    simp only [Nat.add_zero] at y0
                    go_upto_region 23 with fail
                    generalize hV2 : w7.alloc (.cells #[.int .i64 a0, .int .i64 a1, .int .i64 a2, .int .i64 a3, .int .i64 a4, .int .i64 a5, .int .i64 a6, .int .u16 a7, .int .u8 a8] 40) = w8
                    obtain ⟨F8, bn2, -⟩ := boxed hV2
                    obtain ⟨Q2, hQ2⟩ : ∃ q, w7.heap.size = q := ⟨_, rfl⟩
                    rw [hQ2] at F8
                    rw [hQ2]
                    have K8 := K7.below bn2 K7.lt
                    have X8 := X7.below bn2 X7.lt
                    have P8 := P7.below bn2 P7.lt
                    have Z8 := Z7.below bn2 Z7.lt
                    have E8 := E7.below bn2 E7.lt
                    have B8 := bup B7 (Nat.le_of_eq HH.out.symm) bn2
                    have O8 : Hid (OwnR w8 (K + 1) ov S) := OwnR.below O7.out bn2
                    clear hV2 hQ2 bn2 K7 X7 P7 Z7 B7 O7 E7 c1f x2 lx y0 y1 y2 y3 y4 y5 y6 y7 y8 q0 q1 q2 q3 q4 q5 q6 q7 q8 lq
                    have q0 := E8.cell 0 _ rfl
                    have fq0 := F8.cell 0 _ rfl
                    have q1 := E8.cell 1 _ rfl
                    have fq1 := F8.cell 1 _ rfl
                    have q2 := E8.cell 2 _ rfl
                    have fq2 := F8.cell 2 _ rfl
                    have q3 := E8.cell 3 _ rfl
                    have fq3 := F8.cell 3 _ rfl
                    have q4 := E8.cell 4 _ rfl
                    have fq4 := F8.cell 4 _ rfl
                    have q5 := E8.cell 5 _ rfl
                    have fq5 := F8.cell 5 _ rfl
                    have q6 := E8.cell 6 _ rfl
                    have fq6 := F8.cell 6 _ rfl
                    have q7 := E8.cell 7 _ rfl
                    have fq7 := F8.cell 7 _ rfl
                    have q8 := E8.cell 8 _ rfl
                    have fq8 := F8.cell 8 _ rfl
                    have lq := E8.lt
                    have lq2 := F8.lt
                    obtain ⟨G1, hG1⟩ : ∃ y, (a8 + 1) % 256 = y := ⟨_, rfl⟩
                    have hwg : IntKind.u8.wrap (a8 + 1) = G1 := by rw [IntKind.wrap_u8]; exact hG1
                    rw [hG1] at NFAR NSAME NDIF
                    by_cases hfar : b8 ≠ a8 ∧ b8 ≠ G1
                    · have TN : T = none := NFAR.out hfar
                      have hf1 : (b8 != a8) = true := by simpa using hfar.1
                      have hf2 : (b8 != G1) = true := by simpa using hfar.2
                      have hf3 : ¬ b8 = a8 := hfar.1
                      have hf4 : ¬ b8 = G1 := hfar.2
                      clear NSAME NDIF NFAR DC
                      have e1 := M4.out TN
                      subst e1
                      obtain ⟨e2, e3⟩ := NZ.out (by decide)
                      subst e2 e3
                      have d0 := Z8.cell 0 _ rfl
                      have f0 := Z8.froz 0
                      have d1 := Z8.cell 1 _ rfl
                      have f1 := Z8.froz 1
                      have d2 := Z8.cell 2 _ rfl
                      have f2 := Z8.froz 2
                      have d3 := Z8.cell 3 _ rfl
                      have f3 := Z8.froz 3
                      have lr := Z8.lt
                      go_wp2_with fail
                      have RB := blk4 (x0 := .int .i64 0) (x1 := .int .i64 0) (x2 := .int .i64 0) (x3 := .slice none 0 0) Z8
                      have LB := below4 (x0 := .int .i64 0) (x1 := .int .i64 0) (x2 := .int .i64 0) (x3 := .slice none 0 0) B8 (show H ≤ H + 1 + 1 by omega)
                      generalize (((w8.setCell ⟨H + 1 + 1, 0, none⟩ (.int .i64 0)).setCell ⟨H + 1 + 1, 1, none⟩ (.int .i64 0)).setCell ⟨H + 1 + 1, 2, none⟩ (.int .i64 0)).setCell ⟨H + 1 + 1, 3, none⟩ (.slice none 0 0) = W9 at RB LB ⊢
                      have h0 := RB.cell 0 _ rfl
                      have h1 := RB.cell 1 _ rfl
                      have h2 := RB.cell 2 _ rfl
                      have h3 := RB.cell 3 _ rfl
                      refine bodyPost_ret (v := .tuple #[gmV ⟨0, 0, 0⟩ (.slice none 0 0), .int .i64 15]) (by simp [results, Tryz.results11, go_sem, h0, h1, h2, h3]) rfl ⟨_, rfl, OwnR.nil _ _, by rw [HH.out]; exact LB⟩
                    · have HF : Hid (¬ (b8 ≠ a8 ∧ b8 ≠ G1)) := hfar
                      by_cases hsm : b8 = a8
                      · have hf1 : (b8 != a8) = false := by simp [hsm]
                        clear hfar hsm
                        go_wp2_with fail
                        refine (DC.out w8).mono ?_; rintro e w9 ⟨rfl, b9⟩
                        have K9 := K8.below b9 K8.lt
                        have X9 := X8.below b9 X8.lt
                        have P9 := P8.below b9 P8.lt
                        have Z9 := Z8.below b9 Z8.lt
                        have B9 := bup B8 (Nat.le_of_eq HH.out.symm) b9
                        have O9 : Hid (OwnR w9 (K + 1) ov S) := OwnR.below O8.out b9
                        clear E8 F8 K8 X8 P8 Z8 B8 O8 b9 fq0 fq1 fq2 fq3 fq4 fq5 fq6 fq7 fq8 q0 q1 q2 q3 q4 q5 q6 q7 q8
                        have lk9 := K9.lt
                        cases q with
                        | true =>
                          have NX : Hid (mgS A n A' n' S (i + 1) (k + 1) = T) := NSAME.out HF.out rfl
                          clear NSAME NDIF NFAR DC
                          go_wp2_with fail
                          go_roundw
                          case rel => exact ⟨i + 1, k + 1, S, _, by omega, by omega, by go_num, by go_num, NX.out, by omega, K9.alloc _, OwnR.below (w := w9) O9.out ((Below.refl _ _).alloc (Nat.le_refl _) _), X9.alloc _, P9.alloc _, Z9.alloc _, B9.alloc (by have := B9.size; rw [HH.out] at this; exact this) _⟩
                          case measure => simp [intOf]; omega
                        | false =>
                          have NX : Hid (mgS A n A' n' (S ++ [(⟨r0, r1, r2, r3, r4, r5, r6, r7, r8⟩ : Rc)]) (i + 1) (k + 1) = T) := NDIF.out HF.out rfl
                          clear NSAME NDIF NFAR DC
                          go_upto_region 27 with fail
                          generalize hV3 : w9.alloc (.cells #[.int .i64 r0, .int .i64 r1, .int .i64 r2, .int .i64 r3, .int .i64 r4, .int .i64 r5, .int .i64 r6, .int .i64 r7, .int .u16 r8] 79) = W10
                          obtain ⟨R10, bn3, -⟩ := boxed hV3
                          obtain ⟨R, hR⟩ : ∃ r, w9.heap.size = r := ⟨_, rfl⟩
                          rw [hR] at R10
                          rw [hR]
                          have K10 := K9.below bn3 K9.lt
                          have X10 := X9.below bn3 X9.lt
                          have P10 := P9.below bn3 P9.lt
                          have Z10 := Z9.below bn3 Z9.lt
                          have B10 := bup B9 (Nat.le_of_eq HH.out.symm) bn3
                          have O10 : Hid (OwnR W10 (K + 1) ov S) := OwnR.below O9.out bn3
                          clear hV3 hR bn3 K9 X9 P9 Z9 B9 O9 lk9
                          obtain ⟨W11, hW11⟩ : ∃ W, W10.alloc (.cells #[.int .i64 r0, .int .i64 r1, .int .i64 r2, .int .i64 r3, .int .i64 r4, .int .i64 r5, .int .i64 r6, .int .i64 r7, .int .u16 r8] 79) = W := ⟨_, rfl⟩
                          obtain ⟨V11, bn4, -⟩ := boxed hW11
                          obtain ⟨V, hV⟩ : ∃ r, W10.heap.size = r := ⟨_, rfl⟩
                          rw [hV] at V11
                          have K11 := K10.below bn4 K10.lt
                          have X11 := X10.below bn4 X10.lt
                          have P11 := P10.below bn4 P10.lt
                          have Z11 := Z10.below bn4 Z10.lt
                          have B11 := bup B10 (Nat.le_of_eq HH.out.symm) bn4
                          have O11 : Hid (OwnR W11 (K + 1) ov S) := OwnR.below O10.out bn4
                          obtain ⟨oa, oc, rfl⟩ := O11.out.form
                          obtain ⟨ol, hol⟩ : ∃ ol, S.length = ol := ⟨_, rfl⟩
                          rw [hol] at O11 K10 K11
                          have k3 := K10.cell 3 _ rfl
                          have lk10 := K10.lt
                          have h0 := R10.cell 0 _ rfl
                          have h1 := R10.cell 1 _ rfl
                          have h2 := R10.cell 2 _ rfl
                          have h3 := R10.cell 3 _ rfl
                          have h4 := R10.cell 4 _ rfl
                          have h5 := R10.cell 5 _ rfl
                          have h6 := R10.cell 6 _ rfl
                          have h7 := R10.cell 7 _ rfl
                          have h8 := R10.cell 8 _ rfl
                          have lr10 := R10.lt
                          have k113 := K11.cell 3 _ rfl
                          have hsz11 : K + 1 ≤ W11.heap.size := K11.lt
                          go_wp2_with (at_builtin; refine growR_wp rfl _ _ rfl (K + 1) _ S rfl (by exact O11.out) V (⟨r0, r1, r2, r3, r4, r5, r6, r7, r8⟩ : Rc) rfl (fun j u hu => V11.cell j u hu) (by omega) (by exact hsz11) ?_; intro u12 w12 own12 gr12; obtain ⟨ao12, cap12, e12⟩ := own12.form; obtain ⟨n12, hn12⟩ : ∃ n12, (S ++ [(⟨r0, r1, r2, r3, r4, r5, r6, r7, r8⟩ : Rc)]).length = n12 := ⟨_, rfl⟩; rw [hn12] at e12; subst e12; have K12 := K11.below gr12.below (by omega); have k123 := K12.cell 3 _ rfl; have kf123 := K12.froz 3; have lk12 := K12.lt)
                          have X12 := X11.below gr12.below (by omega)
                          have P12 := P11.below gr12.below (by omega)
                          have Z12 := Z11.below gr12.below (by omega)
                          have B12 : Below H w w12 := B11.trans (gr12.below.mono (by omega))
                          go_roundw
                          case rel => exact ⟨i + 1, k + 1, S ++ [(⟨r0, r1, r2, r3, r4, r5, r6, r7, r8⟩ : Rc)], _, by omega, by omega, by go_num, by go_num, NX.out, by rw [List.length_append]; simp; omega, K12.set 3 _ (by simp), OwnR.set own12 (by omega), X12.other (p := ⟨K, 3, none⟩) (fun h' => by have h2 : K = H := h'; omega) _, P12.other (p := ⟨K, 3, none⟩) (fun h' => by have h2 : K = H + 1 := h'; omega) _, Z12.other (p := ⟨K, 3, none⟩) (fun h' => by have h2 : K = H + 1 + 1 := h'; omega) _, B12.setCell (by show H ≤ K; omega) _⟩
                          case measure => simp [intOf]; omega
                      · have hf1 : (b8 != a8) = true := by simpa using hsm
                        have hb : b8 = G1 := by
                          rcases Classical.em (b8 = G1) with h | h
                          · exact h
                          · exact absurd ⟨hsm, h⟩ hfar
                        have hf2 : (b8 != G1) = false := by simp [hb]
                        clear hfar hsm hb
                        go_wp2_with fail
                        refine (DC.out w8).mono ?_; rintro e w9 ⟨rfl, b9⟩
                        have K9 := K8.below b9 K8.lt
                        have X9 := X8.below b9 X8.lt
                        have P9 := P8.below b9 P8.lt
                        have Z9 := Z8.below b9 Z8.lt
                        have B9 := bup B8 (Nat.le_of_eq HH.out.symm) b9
                        have O9 : Hid (OwnR w9 (K + 1) ov S) := OwnR.below O8.out b9
                        clear E8 F8 K8 X8 P8 Z8 B8 O8 b9 fq0 fq1 fq2 fq3 fq4 fq5 fq6 fq7 fq8 q0 q1 q2 q3 q4 q5 q6 q7 q8
                        have lk9 := K9.lt
                        cases q with
                        | true =>
                          have NX : Hid (mgS A n A' n' S (i + 1) (k + 1) = T) := NSAME.out HF.out rfl
                          clear NSAME NDIF NFAR DC
                          go_wp2_with fail
                          go_roundw
                          case rel => exact ⟨i + 1, k + 1, S, _, by omega, by omega, by go_num, by go_num, NX.out, by omega, K9.alloc _, OwnR.below (w := w9) O9.out ((Below.refl _ _).alloc (Nat.le_refl _) _), X9.alloc _, P9.alloc _, Z9.alloc _, B9.alloc (by have := B9.size; rw [HH.out] at this; exact this) _⟩
                          case measure => simp [intOf]; omega
                        | false =>
                          have NX : Hid (mgS A n A' n' (S ++ [(⟨r0, r1, r2, r3, r4, r5, r6, r7, r8⟩ : Rc)]) (i + 1) (k + 1) = T) := NDIF.out HF.out rfl
                          clear NSAME NDIF NFAR DC
                          go_upto_region 27 with fail
                          generalize hV3 : w9.alloc (.cells #[.int .i64 r0, .int .i64 r1, .int .i64 r2, .int .i64 r3, .int .i64 r4, .int .i64 r5, .int .i64 r6, .int .i64 r7, .int .u16 r8] 79) = W10
                          obtain ⟨R10, bn3, -⟩ := boxed hV3
                          obtain ⟨R, hR⟩ : ∃ r, w9.heap.size = r := ⟨_, rfl⟩
                          rw [hR] at R10
                          rw [hR]
                          have K10 := K9.below bn3 K9.lt
                          have X10 := X9.below bn3 X9.lt
                          have P10 := P9.below bn3 P9.lt
                          have Z10 := Z9.below bn3 Z9.lt
                          have B10 := bup B9 (Nat.le_of_eq HH.out.symm) bn3
                          have O10 : Hid (OwnR W10 (K + 1) ov S) := OwnR.below O9.out bn3
                          clear hV3 hR bn3 K9 X9 P9 Z9 B9 O9 lk9
                          obtain ⟨W11, hW11⟩ : ∃ W, W10.alloc (.cells #[.int .i64 r0, .int .i64 r1, .int .i64 r2, .int .i64 r3, .int .i64 r4, .int .i64 r5, .int .i64 r6, .int .i64 r7, .int .u16 r8] 79) = W := ⟨_, rfl⟩
                          obtain ⟨V11, bn4, -⟩ := boxed hW11
                          obtain ⟨V, hV⟩ : ∃ r, W10.heap.size = r := ⟨_, rfl⟩
                          rw [hV] at V11
                          have K11 := K10.below bn4 K10.lt
                          have X11 := X10.below bn4 X10.lt
                          have P11 := P10.below bn4 P10.lt
                          have Z11 := Z10.below bn4 Z10.lt
                          have B11 := bup B10 (Nat.le_of_eq HH.out.symm) bn4
                          have O11 : Hid (OwnR W11 (K + 1) ov S) := OwnR.below O10.out bn4
                          obtain ⟨oa, oc, rfl⟩ := O11.out.form
                          obtain ⟨ol, hol⟩ : ∃ ol, S.length = ol := ⟨_, rfl⟩
                          rw [hol] at O11 K10 K11
                          have k3 := K10.cell 3 _ rfl
                          have lk10 := K10.lt
                          have h0 := R10.cell 0 _ rfl
                          have h1 := R10.cell 1 _ rfl
                          have h2 := R10.cell 2 _ rfl
                          have h3 := R10.cell 3 _ rfl
                          have h4 := R10.cell 4 _ rfl
                          have h5 := R10.cell 5 _ rfl
                          have h6 := R10.cell 6 _ rfl
                          have h7 := R10.cell 7 _ rfl
                          have h8 := R10.cell 8 _ rfl
                          have lr10 := R10.lt
                          have k113 := K11.cell 3 _ rfl
                          have hsz11 : K + 1 ≤ W11.heap.size := K11.lt
                          go_wp2_with (at_builtin; refine growR_wp rfl _ _ rfl (K + 1) _ S rfl (by exact O11.out) V (⟨r0, r1, r2, r3, r4, r5, r6, r7, r8⟩ : Rc) rfl (fun j u hu => V11.cell j u hu) (by omega) (by exact hsz11) ?_; intro u12 w12 own12 gr12; obtain ⟨ao12, cap12, e12⟩ := own12.form; obtain ⟨n12, hn12⟩ : ∃ n12, (S ++ [(⟨r0, r1, r2, r3, r4, r5, r6, r7, r8⟩ : Rc)]).length = n12 := ⟨_, rfl⟩; rw [hn12] at e12; subst e12; have K12 := K11.below gr12.below (by omega); have k123 := K12.cell 3 _ rfl; have kf123 := K12.froz 3; have lk12 := K12.lt)
                          have X12 := X11.below gr12.below (by omega)
                          have P12 := P11.below gr12.below (by omega)
                          have Z12 := Z11.below gr12.below (by omega)
                          have B12 : Below H w w12 := B11.trans (gr12.below.mono (by omega))
                          go_roundw
                          case rel => exact ⟨i + 1, k + 1, S ++ [(⟨r0, r1, r2, r3, r4, r5, r6, r7, r8⟩ : Rc)], _, by omega, by omega, by go_num, by go_num, NX.out, by rw [List.length_append]; simp; omega, K12.set 3 _ (by simp), OwnR.set own12 (by omega), X12.other (p := ⟨K, 3, none⟩) (fun h' => by have h2 : K = H := h'; omega) _, P12.other (p := ⟨K, 3, none⟩) (fun h' => by have h2 : K = H + 1 := h'; omega) _, Z12.other (p := ⟨K, 3, none⟩) (fun h' => by have h2 : K = H + 1 + 1 := h'; omega) _, B12.setCell (by show H ≤ K; omega) _⟩
                          case measure => simp [intOf]; omega
              · have hni : n = i := by omega
                subst hni
                obtain ⟨x', hx'⟩ : ∃ x, A' k = x := ⟨_, rfl⟩
                have NPUT : Hid (x'.g = 0 → mgS A n A' n' (S ++ [putR x']) n (k + 1) = T) := fun h => by rw [← hx'] at h ⊢; exact (mgS_put hkn (fun h => by omega) h).symm.trans HS.out
                have NNONE : Hid (x'.g ≠ 0 → T = none) := fun h => by rw [← hx'] at h; exact HS.out.symm.trans (mgS_none hkn (fun h => by omega) h)
                rw [hx'] at c2
                clear hx' HS
                obtain ⟨b0, b1, b2, b3, b4, b5, b6, b7, b8⟩ := x'
                subst e2
                have u0 := c2 0 _ rfl
                have u1 := c2 1 _ rfl
                have u2 := c2 2 _ rfl
                have u3 := c2 3 _ rfl
                have u4 := c2 4 _ rfl
                have u5 := c2 5 _ rfl
                have u6 := c2 6 _ rfl
                have u7 := c2 7 _ rfl
                have u8 := c2 8 _ rfl
                simp only [Nat.add_zero] at u0
                change Hid (b8 = 0 → mgS A n A' n' (S ++ [(⟨0, b0, b1, b2, b3, b4, b5, b6, b7⟩ : Rc)]) n (k + 1) = T) at NPUT
                change Hid (b8 ≠ 0 → T = none) at NNONE
                have PU : Hid (∀ w', Calls Tryz.prog 36 #[entV ⟨b0, b1, b2, b3, b4, b5, b6, b7, b8⟩] w' fun e w'' => e = .returned (recV ⟨0, b0, b1, b2, b3, b4, b5, b6, b7⟩) ∧ Below w'.heap.size w' w'') := fun w' => dsn_put w' _
                have hne : ¬ k = n' := by omega
                have hne' : ((k : Int) == (n' : Int)) = false := by simp; omega
                have hnn : decide ((n : Int) < (n : Int)) = false := by simp
                go_wp2_with fail
                go_quiet (fail)
                have K5 := K4.drewN nq
                have X5 := X4.drewN nq
                have P5 := P4.drewN nq
                have Z5 := Z4.drewN nq
                have B5 := below_drewN B4 nq
                have O5 : Hid (OwnR (wr.drewN nq) (K + 1) ov S) := O4.out
                have c2d : ∀ j x, (entC ⟨b0, b1, b2, b3, b4, b5, b6, b7, b8⟩)[j]? = some x → (wr.drewN nq).cell? ⟨g2, o2 + k * 9 + j, none⟩ = some x := c2
                clear K4 X4 P4 Z4 B4 O4 u0 u1 u2 u3 u4 u5 u6 u7 u8 x2 lx p2 lp c2 
                generalize wr.drewN nq = wd at K5 X5 P5 Z5 B5 O5 c2d  ⊢
                have u0 := c2d 0 _ rfl
                have u1 := c2d 1 _ rfl
                have u2 := c2d 2 _ rfl
                have u3 := c2d 3 _ rfl
                have u4 := c2d 4 _ rfl
                have u5 := c2d 5 _ rfl
                have u6 := c2d 6 _ rfl
                have u7 := c2d 7 _ rfl
                have u8 := c2d 8 _ rfl
                simp only [Nat.add_zero] at u0
                have x2 := X5.cell 2 _ rfl
                have lx := X5.lt
                have p2 := P5.cell 2 _ rfl
                have lp := P5.lt
                go_wp2_with fail
                generalize hV : wd.alloc (.cells #[.int .i64 b0, .int .i64 b1, .int .i64 b2, .int .i64 b3, .int .i64 b4, .int .i64 b5, .int .i64 b6, .int .u16 b7, .int .u8 b8] 40) = W6
                obtain ⟨E6, bn, -⟩ := boxed hV
                obtain ⟨Q, hQ⟩ : ∃ q, wd.heap.size = q := ⟨_, rfl⟩
                have hKQ : K < Q := by rw [← hQ]; exact K5.lt
                rw [hQ] at E6
                rw [hQ]
                have NEQ : Hid (some Q ≠ ov.ownBlock) := fun e => by have := (World.ownsRow.lt O5.out Q e.symm).2; omega
                have K6 := K5.below bn K5.lt
                have X6 := X5.below bn X5.lt
                have P6 := P5.below bn P5.lt
                have Z6 := Z5.below bn Z5.lt
                have B6 := bup B5 (Nat.le_of_eq HH.out.symm) bn
                have O6 : Hid (OwnR W6 (K + 1) ov S) := OwnR.below O5.out bn
                clear hV hQ
                clear K5 X5 P5 Z5 B5 O5 u0 u1 u2 u3 u4 u5 u6 u7 u8 x2 lx p2 lp bn c2d
                have x2 := X6.cell 2 _ rfl
                have lx := X6.lt
                have q0 := E6.cell 0 _ rfl
                have lq := E6.lt
                have hnq : ((n : Int) == (n : Int)) = true := by simp
                go_quiet (fail)
                have K7 := K6.drewN nq
                have X7 := X6.drewN nq
                have P7 := P6.drewN nq
                have Z7 := Z6.drewN nq
                have E7 := E6.drewN nq
                have B7 := below_drewN B6 nq
                have O7 : Hid (OwnR (W6.drewN nq) (K + 1) ov S) := O6.out
                clear K6 X6 P6 Z6 B6 O6 E6 x2 lx q0 lq
                generalize W6.drewN nq = w7 at K7 X7 P7 Z7 B7 O7 E7  ⊢
                have x2 := X7.cell 2 _ rfl
                have lx := X7.lt
                have q0 := E7.cell 0 _ rfl
                have q1 := E7.cell 1 _ rfl
                have q2 := E7.cell 2 _ rfl
                have q3 := E7.cell 3 _ rfl
                have q4 := E7.cell 4 _ rfl
                have q5 := E7.cell 5 _ rfl
                have q6 := E7.cell 6 _ rfl
                have q7 := E7.cell 7 _ rfl
                have q8 := E7.cell 8 _ rfl
                have lq := E7.lt
                by_cases hg : b8 = 0
                · subst hg
                  have NP : Hid (mgS A n A' n' (S ++ [(⟨0, b0, b1, b2, b3, b4, b5, b6, b7⟩ : Rc)]) n (k + 1) = T) := NPUT.out rfl
                  obtain ⟨oa, oc, rfl⟩ := O7.out.form
                  obtain ⟨ol, hol⟩ : ∃ ol, S.length = ol := ⟨_, rfl⟩
                  rw [hol] at O7 K7 NEQ
                  have k3 := K7.cell 3 _ rfl
                  have kf3 := K7.froz 3
                  have lk := K7.lt
                  go_upto_region 20 with fail
                  have hq7 := nine E7.drew
                  have gQ : K ≠ Q := by omega
                  go_region_law (first | (refine call_step rfl (some 120) rfl 36 (.tmp 119) 40 rfl (enters_of Tryz.func36 (by kernel_rfl) rfl) (entV ⟨b0, b1, b2, b3, b4, b5, b6, b7, 0⟩) rfl ((PU.out _).mono ?_); rintro e w8 ⟨rfl, bb8⟩; refine ⟨_, rfl, ?_⟩; (try simp only [Act.put, List.setIfInBounds_toArray, List.set_cons_zero, List.set_cons_succ]); have K8 := Blk.below K7.drew bb8 K7.drew.lt; have X8 := Blk.below X7.drew bb8 X7.drew.lt; have P8 := Blk.below P7.drew bb8 P7.drew.lt; have Z8 := Blk.below Z7.drew bb8 Z7.drew.lt; have B8 : Below H w w8 := bup B7.drew (Nat.le_of_eq HH.out.symm) bb8; have O8 : Hid (OwnR w8 (K + 1) (.slice oa ol oc) S) := OwnR.below (w := w7.drew) O7.out bb8; have k3_b := K8.cell 3 _ rfl; have kf3_b := K8.froz 3; have lk_b := K8.lt; have E8 := Blk.below E7.drew bb8 E7.drew.lt; have hq8 := nine E8; have E8c := E8.alloc (.cells (recA (⟨0, b0, b1, b2, b3, b4, b5, b6, b7⟩ : Rc)) 79); have hq8c := nine E8c; have k3_c := (K8.alloc (.cells (recA (⟨0, b0, b1, b2, b3, b4, b5, b6, b7⟩ : Rc)) 79)).cell 3 _ rfl) | (refine growR_step rfl (some 122) rfl _ _ rfl (K + 1) _ S rfl (OwnR.below (w := w8) O8.out ((Below.refl _ _).alloc (Nat.le_refl _) _)) _ (⟨0, b0, b1, b2, b3, b4, b5, b6, b7⟩ : Rc) rfl (fun j u hu => (Blk.new w8 (recA (⟨0, b0, b1, b2, b3, b4, b5, b6, b7⟩ : Rc)) 79 rfl).cell j u hu) (by omega) (by first | omega | (simp; omega)) ?_; intro u9 w9 own9 gr9; obtain ⟨ao9, cap9, e9⟩ := own9.form; obtain ⟨n9, hn9⟩ : ∃ n9, (S ++ [(⟨0, b0, b1, b2, b3, b4, b5, b6, b7⟩ : Rc)]).length = n9 := ⟨_, rfl⟩; rw [hn9] at e9; clear hn9; subst e9; (try simp only [Act.put, List.setIfInBounds_toArray, List.set_cons_zero, List.set_cons_succ]); have K9 := (K8.alloc _).below gr9.below (by omega); have X9 := (X8.alloc _).below gr9.below (by omega); have P9 := (P8.alloc _).below gr9.below (by omega); have Z9 := (Z8.alloc _).below gr9.below (by omega); have B9 : Below H w w9 := (B8.alloc (by have := B8.size; rw [HH.out] at this; exact this) _).trans (gr9.below.mono (by omega)); have O9 : Hid (OwnR w9 (K + 1) (Value.slice ao9 n9 cap9) (S ++ [(⟨0, b0, b1, b2, b3, b4, b5, b6, b7⟩ : Rc)])) := own9; have hq9 := nine (E8c.grwn9 gr9.by_ NEQ.out); clear own9 gr9; have k93 := K9.cell 3 _ rfl; have kf93 := K9.froz 3; have lk9 := K9.lt))
                  all_goals (go_wp2_with fail)
                  all_goals (go_roundw
                             case rel => exact ⟨n, k + 1, S ++ [(⟨0, b0, b1, b2, b3, b4, b5, b6, b7⟩ : Rc)], _, by omega, by omega, by go_num, by go_num, NP.out, by rw [List.length_append]; simp; omega, K9.set 3 _ (by simp), OwnR.set O9.out (by omega), X9.other (p := ⟨K, 3, none⟩) (fun h' => by have h2 : K = H := h'; omega) _, P9.other (p := ⟨K, 3, none⟩) (fun h' => by have h2 : K = H + 1 := h'; omega) _, Z9.other (p := ⟨K, 3, none⟩) (fun h' => by have h2 : K = H + 1 + 1 := h'; omega) _, B9.setCell (by show H ≤ K; omega) _⟩
                             case measure => simp [intOf]; omega)
                · have hg1 : (b8 != 0) = true := by simpa using hg
                  have hg2 : (b8 == 0) = false := by simpa using hg
                  have TN : T = none := NNONE.out hg
                  have e1 := M4.out TN
                  subst e1
                  obtain ⟨e2, e3⟩ := NZ.out (by decide)
                  subst e2 e3
                  have d0 := Z7.cell 0 _ rfl
                  have f0 := Z7.froz 0
                  have d1 := Z7.cell 1 _ rfl
                  have f1 := Z7.froz 1
                  have d2 := Z7.cell 2 _ rfl
                  have f2 := Z7.froz 2
                  have d3 := Z7.cell 3 _ rfl
                  have f3 := Z7.froz 3
                  have lr := Z7.lt
                  go_wp2_with fail
                  have RB := blk4 (x0 := .int .i64 0) (x1 := .int .i64 0) (x2 := .int .i64 0) (x3 := .slice none 0 0) Z7
                  have LB := below4 (x0 := .int .i64 0) (x1 := .int .i64 0) (x2 := .int .i64 0) (x3 := .slice none 0 0) B7 (show H ≤ H + 1 + 1 by omega)
                  generalize (((w7.setCell ⟨H + 1 + 1, 0, none⟩ (.int .i64 0)).setCell ⟨H + 1 + 1, 1, none⟩ (.int .i64 0)).setCell ⟨H + 1 + 1, 2, none⟩ (.int .i64 0)).setCell ⟨H + 1 + 1, 3, none⟩ (.slice none 0 0) = W9 at RB LB ⊢
                  have h0 := RB.cell 0 _ rfl
                  have h1 := RB.cell 1 _ rfl
                  have h2 := RB.cell 2 _ rfl
                  have h3 := RB.cell 3 _ rfl
                  refine bodyPost_ret (v := .tuple #[gmV ⟨0, 0, 0⟩ (.slice none 0 0), .int .i64 15]) (by simp [results, Tryz.results11, go_sem, h0, h1, h2, h3]) rfl ⟨_, rfl, OwnR.nil _ _, by rw [HH.out]; exact LB⟩
            · obtain rfl : k = n' := by omega
              have hin : i < n := by omega
              obtain ⟨g1, o1, e1, l1, c0⟩ := rdE_at HR.out hin
              rw [HH.out] at l1
              have c1 : ∀ j x, (entC (A i))[j]? = some x → wr.cell? ⟨g1, o1 + i * 9 + j, none⟩ = some x := fun j x h => (B4.cell (p := ⟨g1, o1 + i * 9 + j, none⟩) l1).trans (c0 j x h)
              have NX : Hid (mgS A n A' k (S ++ [remR (A i)]) (i + 1) k = T) := (mgS_rem hin (fun h => by omega)).symm.trans HS.out
              obtain ⟨x, hx⟩ : ∃ x, A i = x := ⟨_, rfl⟩
              rw [hx] at NX c1
              subst e1
              clear c0 hx HS
              have y0 := c1 0 _ rfl
              simp only [Nat.add_zero] at y0
              go_wp2_with fail
              go_quiet (fail)
              have K5 := K4.drewN nq
              have X5 := X4.drewN nq
              have P5 := P4.drewN nq
              have Z5 := Z4.drewN nq
              have B5 := below_drewN B4 nq
              have O5 : Hid (OwnR (wr.drewN nq) (K + 1) ov S) := O4.out
              have z0 : (wr.drewN nq).cell? ⟨g1, o1 + i * 9, none⟩ = some (.int .i64 x.i) := y0
              clear K4 X4 P4 Z4 B4 O4 y0 x2 lx p2 lp c1
              generalize wr.drewN nq = wd at K5 X5 P5 Z5 B5 O5 z0 ⊢
              obtain ⟨oa, oc, rfl⟩ := O5.out.form
              have k3 := K5.cell 3 _ rfl
              have kf3 := K5.froz 3
              have lk := K5.lt
              have x2 := X5.cell 2 _ rfl
              have lx := X5.lt
              go_upto_region 13 with fail
              go_region_law (first | (refine growR_step rfl (some 86) rfl _ _ rfl (K + 1) _ S rfl (OwnR.below (w := wd.drew) O5.out ((Below.refl _ _).alloc (Nat.le_refl _) _)) _ (⟨2, x.i, 0, 0, 0, 0, 0, 0, 0⟩ : Rc) rfl (fun j u hu => (Blk.new wd.drew (recA (⟨2, x.i, 0, 0, 0, 0, 0, 0, 0⟩ : Rc)) 79 rfl).cell j u hu) (by omega) (by first | omega | (simp; omega)) ?_; intro u6 w6 own6 gr6; obtain ⟨ao6, cap6, e6⟩ := own6.form; obtain ⟨n6, hn6⟩ : ∃ n6, (S ++ [(⟨2, x.i, 0, 0, 0, 0, 0, 0, 0⟩ : Rc)]).length = n6 := ⟨_, rfl⟩; rw [hn6] at e6; clear hn6; subst e6; (try simp only [Act.put, List.setIfInBounds_toArray, List.set_cons_zero, List.set_cons_succ]); have K6 := (K5.drew.alloc _).below gr6.below (by omega); have X6 := (X5.drew.alloc _).below gr6.below (by omega); have P6 := (P5.drew.alloc _).below gr6.below (by omega); have Z6 := (Z5.drew.alloc _).below gr6.below (by omega); have B6 : Below H w w6 := (B5.drew.alloc (by have := B5.size; rw [HH.out] at this; exact this) _).trans (gr6.below.mono (by omega)); have O6 : Hid (OwnR w6 (K + 1) (Value.slice ao6 n6 cap6) (S ++ [(⟨2, x.i, 0, 0, 0, 0, 0, 0, 0⟩ : Rc)])) := own6; clear own6 gr6; have k63 := K6.cell 3 _ rfl; have kf63 := K6.froz 3; have lk6 := K6.lt))
              all_goals (go_wp2_with fail)
              all_goals (go_roundw
                         case rel => exact ⟨i + 1, k, S ++ [(⟨2, x.i, 0, 0, 0, 0, 0, 0, 0⟩ : Rc)], _, by omega, by omega, by go_num, by go_num, NX.out, by rw [List.length_append]; simp; omega, K6.set 3 _ (by simp), OwnR.set O6.out (by omega), X6.other (p := ⟨K, 3, none⟩) (fun h' => by have h2 : K = H := h'; omega) _, P6.other (p := ⟨K, 3, none⟩) (fun h' => by have h2 : K = H + 1 := h'; omega) _, Z6.other (p := ⟨K, 3, none⟩) (fun h' => by have h2 : K = H + 1 + 1 := h'; omega) _, B6.setCell (by show H ≤ K; omega) _⟩
                         case measure => simp [intOf]; omega)
          · obtain rfl : i = n := by omega
            obtain rfl : k = n' := by omega
            have HTS : T = some S := by rw [← HS.out]; exact mgS_end
            obtain ⟨e1, e2, e3⟩ := MY.out _ HTS
            subst e1 e2 e3
            clear M4 MY NZ
            obtain ⟨oa, oc, rfl⟩ := O4.out.form
            have k0 := K4.cell 0 _ rfl
            have k1 := K4.cell 1 _ rfl
            have k2 := K4.cell 2 _ rfl
            have k3 := K4.cell 3 _ rfl
            have lk := K4.lt
            have d0 := Z4.cell 0 _ rfl
            have f0 := Z4.froz 0
            have d1 := Z4.cell 1 _ rfl
            have f1 := Z4.froz 1
            have d2 := Z4.cell 2 _ rfl
            have f2 := Z4.froz 2
            have d3 := Z4.cell 3 _ rfl
            have f3 := Z4.froz 3
            have lr := Z4.lt
            go_wp2_with fail
            have RB := blk4 (x0 := .int .i64 t') (x1 := .int .i64 m') (x2 := .int .i64 t) (x3 := .slice oa TL.length oc) Z4
            have LB := below4 (x0 := .int .i64 t') (x1 := .int .i64 m') (x2 := .int .i64 t) (x3 := .slice oa TL.length oc) B4 (show H ≤ H + 1 + 1 by omega)
            have OB := (((OwnR.set (b := H + 1 + 1) (o := 0) (x := .int .i64 t') O4.out (by omega)).set (b := H + 1 + 1) (o := 1) (x := .int .i64 m') (by omega)).set (b := H + 1 + 1) (o := 2) (x := .int .i64 t) (by omega)).set (b := H + 1 + 1) (o := 3) (x := .slice oa TL.length oc) (by omega)
            generalize (((wr.setCell ⟨H + 1 + 1, 0, none⟩ (.int .i64 t')).setCell ⟨H + 1 + 1, 1, none⟩ (.int .i64 m')).setCell ⟨H + 1 + 1, 2, none⟩ (.int .i64 t)).setCell ⟨H + 1 + 1, 3, none⟩ (.slice oa TL.length oc) = W9 at RB LB OB ⊢
            have h0 := RB.cell 0 _ rfl
            have h1 := RB.cell 1 _ rfl
            have h2 := RB.cell 2 _ rfl
            have h3 := RB.cell 3 _ rfl
            refine bodyPost_ret (v := .tuple #[gmV ⟨t', m', t⟩ (.slice oa TL.length oc), .int .i64 0]) (by simp [results, Tryz.results11, go_sem, h0, h1, h2, h3]) rfl ⟨_, rfl, OB.mono (by rw [HH.out]; omega), by rw [HH.out]; exact LB⟩
    · have e1 := N2.out (by trivial) hz'
      subst e1
      obtain ⟨e2, e3⟩ := NZ.out hz'
      subst e2 e3
      clear N1 N2 N3 N4 Y NZ FN FN' HC'
      have hq : (E != 0) = true := by simpa using hz'
      have d0 := Z2.cell 0 _ rfl
      have f0 := Z2.froz 0
      have d1 := Z2.cell 1 _ rfl
      have f1 := Z2.froz 1
      have d2 := Z2.cell 2 _ rfl
      have f2 := Z2.froz 2
      have d3 := Z2.cell 3 _ rfl
      have f3 := Z2.froz 3
      have lr := Z2.lt
      go_wp2_with fail
      have RB := blk4 (x0 := .int .i64 0) (x1 := .int .i64 0) (x2 := .int .i64 0) (x3 := .slice none 0 0) Z2
      have LB := below4 (x0 := .int .i64 0) (x1 := .int .i64 0) (x2 := .int .i64 0) (x3 := .slice none 0 0) B2 (show H ≤ H + 1 + 1 by omega)
      generalize (((w2.setCell ⟨H + 1 + 1, 0, none⟩ (.int .i64 0)).setCell ⟨H + 1 + 1, 1, none⟩ (.int .i64 0)).setCell ⟨H + 1 + 1, 2, none⟩ (.int .i64 0)).setCell ⟨H + 1 + 1, 3, none⟩ (.slice none 0 0) = W9 at RB LB ⊢
      have h0 := RB.cell 0 _ rfl
      have h1 := RB.cell 1 _ rfl
      have h2 := RB.cell 2 _ rfl
      have h3 := RB.cell 3 _ rfl
      refine bodyPost_ret (v := .tuple #[gmV ⟨0, 0, 0⟩ (.slice none 0 0), .int .i64 E]) (by simp [results, Tryz.results11, go_sem, h0, h1, h2, h3]) rfl ⟨_, rfl, OwnR.nil _ _, by rw [HH.out]; exact LB⟩
  · have e1 := N1.out hz
    subst e1
    obtain ⟨e2, e3⟩ := NZ.out hz
    subst e2 e3
    clear N1 N2 N3 N4 Y NZ FN FN' HC'
    have hq0 : (E == 0) = false := by simpa using hz
    have hq : (E != 0) = true := by simpa using hz
    have d0 := Z1.cell 0 _ rfl
    have f0 := Z1.froz 0
    have d1 := Z1.cell 1 _ rfl
    have f1 := Z1.froz 1
    have d2 := Z1.cell 2 _ rfl
    have f2 := Z1.froz 2
    have d3 := Z1.cell 3 _ rfl
    have f3 := Z1.froz 3
    have lr := Z1.lt
    go_wp2_with fail
    have RB := blk4 (x0 := .int .i64 0) (x1 := .int .i64 0) (x2 := .int .i64 0) (x3 := .slice none 0 0) Z1
    have LB := below4 (x0 := .int .i64 0) (x1 := .int .i64 0) (x2 := .int .i64 0) (x3 := .slice none 0 0) B1 (show H ≤ H + 1 + 1 by omega)
    generalize (((w1.setCell ⟨H + 1 + 1, 0, none⟩ (.int .i64 0)).setCell ⟨H + 1 + 1, 1, none⟩ (.int .i64 0)).setCell ⟨H + 1 + 1, 2, none⟩ (.int .i64 0)).setCell ⟨H + 1 + 1, 3, none⟩ (.slice none 0 0) = W9 at RB LB ⊢
    have h0 := RB.cell 0 _ rfl
    have h1 := RB.cell 1 _ rfl
    have h2 := RB.cell 2 _ rfl
    have h3 := RB.cell 3 _ rfl
    refine bodyPost_ret (v := .tuple #[gmV ⟨0, 0, 0⟩ (.slice none 0 0), .int .i64 E]) (by simp [results, Tryz.results11, go_sem, h0, h1, h2, h3]) rfl ⟨_, rfl, OwnR.nil _ _, by rw [HH.out]; exact LB⟩
end Go.Proofs.YtokegpajjicehaaGreat
