/-
  Texts Dl24 in one.
-/
import Derived.Test.YtlpdhglibgnkoaaGreatP32
namespace Go.Proofs.YtlpdhglibgnkoaaGreat
open Go.RowKit
set_option linter.unusedVariables false
set_option maxRecDepth 20000

theorem apl_is {t m : Int} {L : List En} {g : Gm} {A : Nat → Rc} {n : Nat} (h0 : gmE g A n = 0) (h1 : ¬ (g.b ≠ -1 ∧ snE t m L ≠ 0)) (h2 : ¬ (g.b ≠ -1 ∧ t ≠ g.b)) :
    (apl (wasL g.b L) (pre A n) = none → aplE t m L g A n = 15) ∧ (∀ M, apl (wasL g.b L) (pre A n) = some M → 64 < M.length → aplE t m L g A n = 4) ∧
    (∀ M, apl (wasL g.b L) (pre A n) = some M → ¬ 64 < M.length → aplE t m L g A n = 0 ∧ apT t m L g A n = g.t ∧ apM t m L g A n = g.m ∧ aplL t m L g A n = M) := by
  have e : aplE t m L g A n = match apl (wasL g.b L) (pre A n) with | none => 15 | some M => if 64 < M.length then 4 else 0 := by
    unfold aplE; rw [if_pos h0, if_neg h1, if_neg h2]; rfl
  refine ⟨fun h => by rw [e, h], fun M h hl => by rw [e, h]; exact if_pos hl, fun M h hl => ?_⟩
  have e0 : aplE t m L g A n = 0 := by rw [e, h]; exact if_neg hl
  exact ⟨e0, by unfold apT; rw [if_pos e0], by unfold apM; rw [if_pos e0], by unfold aplL; rw [if_pos e0, h]; rfl⟩
theorem appE0_step {w : World} {ops : Array Oper} {o : Oper} {a : Act} {K : Act → World → Prop} {Q : Exit → Act → World → Prop} {E : Prop} (hgd : o.guard = none) (d : Option Nat) (hd : o.dst = d) (s x : Operand)
    (ho : o.op = .call { callee := .builtin .append, args := #[s, x], argTypes := #[43, 43] })
    (B : Nat) (v : Value) (L : List En) (hs : a.eval s = v) (hown : OwnE w B v L) (c : Nat) (hx : a.eval x = .slice none 0 c) (h : K (a.put d v) w) :
    if Region.wanted o (yielded ops a.tmps) = true then Oper.wp Tryz.prog o a w K Q else E := by
  subst hd
  have hw : Region.wanted o (yielded ops a.tmps) = true := by simp [Region.wanted, hgd]
  rw [if_pos hw]
  obtain ⟨i0, hi, hz0, hz1, hz2⟩ := info_parts infoE
  have hrun : (Builtin.append_ #[43, 43] o.type #[v, .slice none 0 c]).run Tryz.prog w = .ok v w := by
    rcases hown.2 with ⟨rfl, h0⟩ | ⟨g, cap, cur, rfl, _, _, hnc, _⟩
    · simp [Builtin.append_, run_underlying Tryz.underlying43, Go.sizeOf, typeInfo, hi, Builtin.lenOf, Builtin.firstCells]
    · simp [Builtin.append_, run_underlying Tryz.underlying43, Go.sizeOf, typeInfo, hi, Builtin.lenOf, Builtin.firstCells, hnc, storeCells]
  unfold Oper.wp
  simp [execOp, ho, resolve, invoke, builtin, hs, hx, hrun, Result.andThen]
  exact h
theorem ownE_nine {w : World} {B b : Nat} {v x0 x1 x2 x3 x4 x5 x6 x7 x8 : Value} {L : List En} (h : OwnE w B v L) (hne : some b ≠ v.ownBlock) :
    OwnE (((((((((w.setCell ⟨b, 0, none⟩ x0).setCell ⟨b, 1, none⟩ x1).setCell ⟨b, 2, none⟩ x2).setCell ⟨b, 3, none⟩ x3).setCell ⟨b, 4, none⟩ x4).setCell ⟨b, 5, none⟩ x5).setCell ⟨b, 6, none⟩ x6).setCell ⟨b, 7, none⟩ x7).setCell ⟨b, 8, none⟩ x8) B v L := by
  have one : ∀ {w : World} (o : Nat) (x : Value), OwnE w B v L → OwnE (w.setCell ⟨b, o, none⟩ x) B v L := fun o x h => World.ownsRow.kept h (grownBy_setCellAny _ b o x) (by
    cases hq : v.ownBlock with
    | none => exact Or.inl rfl
    | some q => exact Or.inr (fun e => hne (by rw [hq]; exact e.symm)))
  exact one 8 _ (one 7 _ (one 6 _ (one 5 _ (one 4 _ (one 3 _ (one 2 _ (one 1 _ (one 0 _ h))))))))
set_option maxHeartbeats 8000000 in
theorem da_apply (w : World) (t m : Int) (va : Value) (na : Nat) (Aa : Nat → En) (hva : RdE w va na Aa) (g : Gm) (ok : g.ok) (v : Value) (n : Nat) (A : Nat → Rc) (hA : ∀ i, i < n → (A i).ok) (hv : RdR w v n A) :
    Calls Tryz.prog 39 #[snV t m va, gmV g v] w fun e w' => ∃ u, e = .returned (.tuple #[snV (apT t m (preE Aa na) g A n) (apM t m (preE Aa na) g A n) u, .int .i64 (aplE t m (preE Aa na) g A n)]) ∧ OwnE w' w.heap.size u (aplL t m (preE Aa na) g A n) ∧ Below w.heap.size w w' := by
  have HR : Hid (RdR w v n A) := hv
  have HRA : Hid (RdE w va na Aa) := hva
  have HG : Hid (∀ w', Below w.heap.size w w' → Calls Tryz.prog 62 #[gmV g v] w' fun e w'' => e = .returned (.int .i64 (gmE g A n)) ∧ Below w'.heap.size w' w'') := fun w' h => dg_checks w' g ok v n A hA (hv.below h)
  have HC : Hid (∀ w', Below w.heap.size w w' → Calls Tryz.prog 63 #[snV t m va] w' fun e w'' => e = .returned (.int .i64 (snE t m (preE Aa na))) ∧ Below w'.heap.size w' w'') := fun w' h => dsn_check w' t m va na Aa (hva.below h)
  have HZ : Hid (aplE t m (preE Aa na) g A n ≠ 0 → apT t m (preE Aa na) g A n = 0 ∧ apM t m (preE Aa na) g A n = 0 ∧ aplL t m (preE Aa na) g A n = []) := apl_zero
  have H1 : Hid (gmE g A n ≠ 0 → aplE t m (preE Aa na) g A n = gmE g A n) := fun h => by unfold aplE; rw [if_neg h]
  have H2 : Hid (gmE g A n = 0 → g.b ≠ -1 → snE t m (preE Aa na) ≠ 0 → aplE t m (preE Aa na) g A n = snE t m (preE Aa na)) := fun h h' h2 => by unfold aplE; rw [if_pos h, if_pos ⟨h', h2⟩]
  have H3 : Hid (gmE g A n = 0 → g.b ≠ -1 → snE t m (preE Aa na) = 0 → t ≠ g.b → aplE t m (preE Aa na) g A n = 14) := fun h h' h2 h3 => by unfold aplE; rw [if_pos h, if_neg (fun q => q.2 h2), if_pos ⟨h', h3⟩]
  have HF : Hid (gmE g A n = 0 → (g.b ≠ -1 → snE t m (preE Aa na) = 0 ∧ t = g.b) → ∀ T, apl (wasL g.b (preE Aa na)) (pre A n) = T → ((T = none → aplE t m (preE Aa na) g A n = 15) ∧ (∀ M, T = some M → 64 < M.length → aplE t m (preE Aa na) g A n = 4) ∧
    (∀ M, T = some M → ¬ 64 < M.length → aplE t m (preE Aa na) g A n = 0 ∧ apT t m (preE Aa na) g A n = g.t ∧ apM t m (preE Aa na) g A n = g.m ∧ aplL t m (preE Aa na) g A n = M))) := fun h h' T e => by
    subst e
    exact apl_is h (fun q => q.2 (h' q.1).1) (fun q => q.2 (h' q.1).2)
  have HBD : Hid (gmE g A n = 0 → -1 ≤ g.b ∧ n ≤ 128) := fun h => by
    have := hed_ok (gm_head h); omega
  have HNA : Hid (snE t m (preE Aa na) = 0 → na ≤ 64) := fun h => by
    have := (sn_ok h).2.2.2.1; rwa [preE_len] at this
  have WN : Hid (g.b = -1 → wasL g.b (preE Aa na) = []) := fun h => by unfold wasL; rw [if_pos h]
  have WY : Hid (g.b ≠ -1 → wasL g.b (preE Aa na) = preE Aa na) := fun h => by unfold wasL; rw [if_neg h]
  obtain ⟨ge, hge⟩ : ∃ s, gmE g A n = s := ⟨_, rfl⟩
  obtain ⟨se, hse⟩ : ∃ s, snE t m (preE Aa na) = s := ⟨_, rfl⟩
  obtain ⟨E, hE⟩ : ∃ E, aplE t m (preE Aa na) g A n = E := ⟨_, rfl⟩
  obtain ⟨RT, hT⟩ : ∃ E, apT t m (preE Aa na) g A n = E := ⟨_, rfl⟩
  obtain ⟨RM, hM⟩ : ∃ E, apM t m (preE Aa na) g A n = E := ⟨_, rfl⟩
  obtain ⟨TL, hL⟩ : ∃ E, aplL t m (preE Aa na) g A n = E := ⟨_, rfl⟩
  rw [hE, hT, hM, hL] at HZ
  rw [hge, hE] at H1
  rw [hge, hse, hE] at H2 H3
  rw [hge, hse, hE, hT, hM, hL] at HF
  rw [hge] at HG HBD
  rw [hse] at HC HNA
  rw [hE, hT, hM, hL]
  clear hge hse hE hT hM hL hv hva hA ok
  obtain ⟨g0, g1, g2⟩ := g
  simp only at H2 H3 HF WN WY HBD
  obtain ⟨ao, cap, e0, hc, hm, _⟩ := HR.out
  subst e0
  obtain ⟨aa, ca, e0, hca, hma, _⟩ := HRA.out
  subst e0
  go_enter Tryz.func39, Tryz.ntmps39
  go_wp2_with fail
  generalize hW : ((w.alloc (.cells #[.int .i64 t, .int .i64 m, .slice aa na ca] 45)).alloc (.cells #[.int .i64 g0, .int .i64 g1, .int .i64 g2, .slice ao n cap] 61)).alloc (.cells #[.int .i64 0, .int .i64 0, .slice none 0 0] 45) = W
  obtain ⟨X0, G0, S0, b0, -⟩ := boxed3 hW
  obtain ⟨H, hH⟩ : ∃ H, w.heap.size = H := ⟨_, rfl⟩
  have HH : Hid (w.heap.size = H) := hH
  clear hW
  refine (HG.out _ b0).mono ?_; rintro e w1 ⟨rfl, b1⟩
  rw [hH] at X0 G0 S0 b0
  rw [hH]
  have X1 := X0.below b1 X0.lt
  have G1 := G0.below b1 G0.lt
  have S1' := S0.below b1 S0.lt
  have B1 : Below H w w1 := bup b0 (Nat.le_of_eq hH.symm) b1
  clear hH HG X0 G0 S0 b0 b1
  by_cases hz : ge = 0
  · subst hz
    obtain ⟨hb0, hn⟩ := HBD.out (by trivial)
    clear H1 HBD
    have y0 := G1.cell 0 _ rfl
    have y1 := G1.cell 1 _ rfl
    have lg := G1.lt
    go_upto_region 6 with fail
    generalize hV : w1.alloc (.cells #[.int .i64 g0, .int .i64 g1, .slice none 0 0] 45) = W2
    obtain ⟨K2, bn, -⟩ := boxed hV
    have X2 := X1.below bn X1.lt
    have G2 := G1.below bn G1.lt
    have Z2 := S1'.below bn S1'.lt
    have B2 := bup B1 (Nat.le_of_eq HH.out.symm) bn
    have lK : H + 1 + 1 < w1.heap.size := S1'.lt
    obtain ⟨K, hK⟩ : ∃ M, w1.heap.size = M := ⟨_, rfl⟩
    rw [hK] at K2 lK
    rw [hK]
    clear hV hK y0 y1 lg bn X1 G1 S1' B1
    have y2 := G2.cell 2 _ rfl
    have lg := G2.lt
    go_upto_if 28 with fail
    clear y2 lg
    go_cut [8] (fun p wx => ∃ (aw : Option Addr) (nw cw : Nat) (T : Option (List En)), p = .slice aw nw cw ∧ nw ≤ 64 ∧ (∀ w', Below H w w' → RdE w' (.slice aw nw cw) nw Aa) ∧ apl (preE Aa nw) (pre A n) = T ∧ (T = none → E = 15) ∧ (∀ M, T = some M → 64 < M.length → E = 4) ∧ (∀ M, T = some M → ¬ 64 < M.length → E = 0 ∧ RT = g0 ∧ RM = g1 ∧ TL = M) ∧ Blk wx K [.int .i64 g0, .int .i64 g1, .slice none 0 0] ∧ Blk wx (H + 1) [.int .i64 g0, .int .i64 g1, .int .i64 g2, .slice ao n cap] ∧ Blk wx (H + 1 + 1) [.int .i64 0, .int .i64 0, .slice none 0 0] ∧ Below H w wx)
    case first =>
      have y2 := G2.cell 2 _ rfl
      have lg := G2.lt
      by_cases hb : g2 = -1
      · have f0 := HF.out (by trivial) (fun h => absurd hb h) _ rfl
        rw [WN.out hb] at f0
        have F0 : Hid (_) := f0
        subst hb
        clear f0 HF H2 H3 WN WY HC HNA
        go_wp2_with fail
        go_meet
        exact ⟨none, 0, 0, _, rfl, by omega, fun w' h => ⟨none, 0, rfl, Nat.le_refl _, by omega, Or.inl rfl⟩, rfl, F0.out.1, F0.out.2.1, F0.out.2.2, K2, G2, Z2, B2⟩
      · have hb1 : 0 ≤ g2 := by omega
        have d1 : decide ((0 : Int) ≤ g2) = true := by simpa using hb1
        have x0 := X2.cell 0 _ rfl
        have x1 := X2.cell 1 _ rfl
        have x2 := X2.cell 2 _ rfl
        have lx := X2.lt
        go_wp2_with fail
        refine (HC.out _ (by rw [HH.out]; exact B2)).mono ?_; rintro e w3 ⟨rfl, b3⟩
        have X3 := X2.below b3 X2.lt
        have G3 := G2.below b3 G2.lt
        have Z3 := Z2.below b3 Z2.lt
        have K3 := K2.below b3 K2.lt
        have B3 := bup B2 (Nat.le_of_eq HH.out.symm) b3
        clear x0 x1 x2 lx y2 lg X2 G2 Z2 K2 B2 b3 HC
        by_cases hs : se = 0
        · subst hs
          have y2 := G3.cell 2 _ rfl
          have lg := G3.lt
          have x0 := X3.cell 0 _ rfl
          have x2 := X3.cell 2 _ rfl
          have lx := X3.lt
          by_cases ht : t = g2
          · subst ht
            have f0 := HF.out (by trivial) (fun _ => ⟨by trivial, rfl⟩) _ rfl
            rw [WY.out hb] at f0
            have F0 : Hid (_) := f0
            have NA := HNA.out (by trivial)
            clear f0 HF H2 H3 WN WY HNA
            go_wp2_with fail
            go_meet
            exact ⟨aa, na, ca, _, rfl, NA, fun w' h => HRA.out.below (by rw [HH.out]; exact h), rfl, F0.out.1, F0.out.2.1, F0.out.2.2, K3, G3, Z3, B3⟩
          · have hq : (t != g2) = true := by simpa using ht
            have k1 := H3.out (by trivial) hb (by trivial) ht
            obtain ⟨k2, k3, k4⟩ := HZ.out (by rw [k1]; decide)
            subst k1 k2 k3 k4
            clear H2 H3 HF WN WY HZ HNA
            have d0 := Z3.cell 0 _ rfl
            have f0 := Z3.froz 0
            have d1 := Z3.cell 1 _ rfl
            have f1 := Z3.froz 1
            have d2 := Z3.cell 2 _ rfl
            have f2 := Z3.froz 2
            have lr := Z3.lt
            go_wp2_with fail
            have RB := blk_three (x0 := .int .i64 0) (x1 := .int .i64 0) (x2 := .slice none 0 0) Z3
            have LB := below_three (x0 := .int .i64 0) (x1 := .int .i64 0) (x2 := .slice none 0 0) B3 (show H ≤ H + 1 + 1 by omega)
            generalize ((w3.setCell ⟨H + 1 + 1, 0, none⟩ (.int .i64 0)).setCell ⟨H + 1 + 1, 1, none⟩ (.int .i64 0)).setCell ⟨H + 1 + 1, 2, none⟩ (.slice none 0 0) = W9 at RB LB ⊢
            have h0 := RB.cell 0 _ rfl
            have h1 := RB.cell 1 _ rfl
            have h2 := RB.cell 2 _ rfl
            refine bodyPost_ret (v := .tuple #[snV (0) (0) (.slice none 0 0), .int .i64 14]) (by simp [results, Tryz.results39, go_sem, h0, h1, h2]) rfl ⟨_, rfl, OwnE.nil' _ _, by rw [HH.out]; exact LB⟩
        · have hz := hs
          have k1 := H2.out (by trivial) hb hs
          obtain ⟨k2, k3, k4⟩ := HZ.out (by rw [k1]; exact hz)
          subst k1 k2 k3 k4
          clear H2 H3 HF WN WY HZ HNA
          have hq : (E != 0) = true := by simp [hz]
          have d0 := Z3.cell 0 _ rfl
          have f0 := Z3.froz 0
          have d1 := Z3.cell 1 _ rfl
          have f1 := Z3.froz 1
          have d2 := Z3.cell 2 _ rfl
          have f2 := Z3.froz 2
          have lr := Z3.lt
          go_wp2_with fail
          have RB := blk_three (x0 := .int .i64 0) (x1 := .int .i64 0) (x2 := .slice none 0 0) Z3
          have LB := below_three (x0 := .int .i64 0) (x1 := .int .i64 0) (x2 := .slice none 0 0) B3 (show H ≤ H + 1 + 1 by omega)
          generalize ((w3.setCell ⟨H + 1 + 1, 0, none⟩ (.int .i64 0)).setCell ⟨H + 1 + 1, 1, none⟩ (.int .i64 0)).setCell ⟨H + 1 + 1, 2, none⟩ (.slice none 0 0) = W9 at RB LB ⊢
          have h0 := RB.cell 0 _ rfl
          have h1 := RB.cell 1 _ rfl
          have h2 := RB.cell 2 _ rfl
          refine bodyPost_ret (v := .tuple #[snV (0) (0) (.slice none 0 0), .int .i64 E]) (by simp [results, Tryz.results39, go_sem, h0, h1, h2]) rfl ⟨_, rfl, OwnE.nil' _ _, by rw [HH.out]; exact LB⟩
    case rest =>
      clear X2 G2 Z2 K2 B2 HF H2 H3 WN WY HC HNA HRA
      obtain ⟨aw, nw, cw, T, rfl, hnw, hrw, hT, f1, f2, f3, K2, G2, Z2, B2⟩ := hcut
      have HRW : Hid (∀ w', Below H w w' → RdE w' (.slice aw nw cw) nw Aa) := hrw
      have F1 : Hid (T = none → E = 15) := f1
      have F2 : Hid (∀ M, T = some M → 64 < M.length → E = 4) := f2
      have F3 : Hid (∀ M, T = some M → ¬ 64 < M.length → E = 0 ∧ RT = g0 ∧ RM = g1 ∧ TL = M) := f3
      have HT : Hid (apS Aa nw A n [] 0 0 = T) := apS_start.trans hT
      clear hrw f1 f2 f3 hT
      go_wp2_with fail
      go_loopw [9, 10] (fun vi vk wr => ∃ (i k : Nat) (S : List En) (ov : Value), i ≤ nw ∧ k ≤ n ∧ vi = .int .i64 i ∧ vk = .int .i64 k ∧ apS Aa nw A n S i k = T ∧ S.length ≤ i + k ∧ Blk wr K [.int .i64 g0, .int .i64 g1, ov] ∧ OwnE wr (K + 1) ov S ∧ Blk wr (H + 1) [.int .i64 g0, .int .i64 g1, .int .i64 g2, .slice ao n cap] ∧ Blk wr (H + 1 + 1) [.int .i64 0, .int .i64 0, .slice none 0 0] ∧ Below H w wr) (fun _ k _ => n - (intOf k).toNat)
      case atStart => exact ⟨0, 0, [], .slice none 0 0, by omega, by omega, rfl, rfl, HT.out, by simp, K2, OwnE.nil' _ _, G2, Z2, B2⟩
      case round =>
        clear K2 G2 Z2 B2 HT
        obtain ⟨i, k, S, ov, hi, hk, rfl, rfl, T1, hS, q1, q2, q3, q4, q5⟩ := hrel
        have c3 := q3.cell 3 _ rfl
        have lg := q3.lt
        by_cases hlt : k < n
        · have q6 : RdR wr (.slice ao n cap) n A := HR.out.below (by rw [HH.out]; exact q5)
          obtain ⟨c1', o1, e1, l1, c1⟩ := rdR_at q6 hlt
          obtain ⟨r, hr⟩ : ∃ r, A k = r := ⟨_, rfl⟩
          have HAR : Hid (A k = r) := hr
          rw [hr] at c1
          subst e1
          have x0 := c1 0 _ rfl
          have x1 := c1 1 _ rfl
          have x2 := c1 2 _ rfl
          have x3 := c1 3 _ rfl
          have x4 := c1 4 _ rfl
          have x5 := c1 5 _ rfl
          have x6 := c1 6 _ rfl
          have x7 := c1 7 _ rfl
          have x8 := c1 8 _ rfl
          simp only [Nat.add_zero] at x0
          clear c1 q6 hr
          have Q2 : Hid (OwnE wr (K + 1) ov S) := q2
          have HT1 : Hid (apS Aa nw A n S i k = T) := T1
          obtain ⟨r0, r1, r2, r3, r4, r5, r6, r7, r8⟩ := r
          clear q2 T1
          go_wp2_with fail
          generalize hV : wr.alloc (.cells #[.int .i64 r0, .int .i64 r1, .int .i64 r2, .int .i64 r3, .int .i64 r4, .int .i64 r5, .int .i64 r6, .int .i64 r7, .int .u16 r8] 107) = V
          obtain ⟨C0, bn, -⟩ := boxed hV
          have K0 := q1.below bn q1.lt
          have G0 := q3.below bn q3.lt
          have Z0 := q4.below bn q4.lt
          have O0 : Hid (OwnE V (K + 1) ov S) := Q2.out.below bn
          have B0 := bup q5 (Nat.le_of_eq HH.out.symm) bn
          have AM0 : some wr.heap.size ≠ ov.ownBlock := fun h' => by have := (Q2.out.lt _ h'.symm).2; omega
          have lKw := q1.lt
          obtain ⟨M, hM⟩ : ∃ M, wr.heap.size = M := ⟨_, rfl⟩
          rw [hM] at C0 AM0 lKw
          rw [hM]
          clear hV hM bn q1 q3 q4 q5 Q2 c3 lg x0 x1 x2 x3 x4 x5 x6 x7 x8 l1
          go_loopw [9] (fun vi wr' => ∃ (i : Nat) (S : List En) (ov : Value), i ≤ nw ∧ vi = .int .i64 i ∧ apS Aa nw A n S i k = T ∧ S.length ≤ i + k ∧ Blk wr' K [.int .i64 g0, .int .i64 g1, ov] ∧ OwnE wr' (K + 1) ov S ∧ some M ≠ ov.ownBlock ∧ Blk wr' M [.int .i64 r0, .int .i64 r1, .int .i64 r2, .int .i64 r3, .int .i64 r4, .int .i64 r5, .int .i64 r6, .int .i64 r7, .int .u16 r8] ∧ Blk wr' (H + 1) [.int .i64 g0, .int .i64 g1, .int .i64 g2, .slice (some ⟨c1', o1, none⟩) n cap] ∧ Blk wr' (H + 1 + 1) [.int .i64 0, .int .i64 0, .slice none 0 0] ∧ Below H w wr') (fun i _ => nw - (intOf i).toNat)
          case atStart => exact ⟨i, S, ov, hi, rfl, HT1.out, hS, K0, O0.out, AM0, C0, G0, Z0, B0⟩
          case round =>
            clear K0 O0 AM0 C0 G0 Z0 B0 HT1 hi hS
            obtain ⟨i, S, ov, hi, rfl, T1, hS, q1, q2, q3, q4, q5, q6, q7⟩ := hrel
            have HT1 : Hid (apS Aa nw A n S i k = T) := T1
            have O1 : Hid (OwnE wr (K + 1) ov S) := q2
            clear T1 q2
            have y1 := q4.cell 1 _ rfl
            have lM := q4.lt
            by_cases hin : i < nw
            · have RW : RdE wr (.slice aw nw cw) nw Aa := HRW.out _ q7
              obtain ⟨wb, wo, e1, l1, c1⟩ := rdE_at RW hin
              obtain ⟨x, hx⟩ : ∃ x, Aa i = x := ⟨_, rfl⟩
              have HX : Hid (Aa i = x) := hx
              rw [hx] at c1
              subst e1
              have z0 := c1 0 _ rfl
              simp only [Nat.add_zero] at z0
              by_cases hlti : x.i < r1
              · have NX : Hid (apS Aa nw A n (S ++ [x]) (i + 1) k = T) := by
                  have e := apS_skip (Aa := Aa) (nw := nw) (A := A) (n := n) (S := S) (i := i) (k := k) hin hlt (by rw [HX.out, HAR.out]; exact hlti)
                  rw [HX.out] at e
                  exact e.symm.trans HT1.out
                have CX : Hid (∀ j u, (entC x)[j]? = some u → wr.cell? ⟨wb, wo + i * 9 + j, none⟩ = some u) := c1
                clear hx RW c1
                go_wp2_with fail
                go_quiet (fail)
                go_wp2_with fail
                have K1 := q1.drewN nq
                have C1 := q4.drewN nq
                have G1 := q5.drewN nq
                have Z1 := q6.drewN nq
                have B1 := below_drewN q7 nq
                have O2 : Hid (OwnE (wr.drewN nq) (K + 1) ov S) := O1.out
                have CD : Hid (∀ j u, (entC x)[j]? = some u → (wr.drewN nq).cell? ⟨wb, wo + i * 9 + j, none⟩ = some u) := CX.out
                clear q1 q4 q5 q6 q7 O1 y1 lM CX z0
                generalize wr.drewN nq = wd at K1 C1 G1 Z1 B1 O2 CD ⊢
                obtain ⟨oa, oc, rfl⟩ := O2.out.form
                have z0 := CD.out 0 _ rfl
                have z1 := CD.out 1 _ rfl
                have z2 := CD.out 2 _ rfl
                have z3 := CD.out 3 _ rfl
                have z4 := CD.out 4 _ rfl
                have z5 := CD.out 5 _ rfl
                have z6 := CD.out 6 _ rfl
                have z7 := CD.out 7 _ rfl
                have z8 := CD.out 8 _ rfl
                simp only [Nat.add_zero] at z0
                have k2 := K1.cell 2 _ rfl
                have kf2 := K1.froz 2
                have lk := K1.lt
                go_region_law (first | (refine growE_step rfl (some 76) rfl _ _ rfl (K + 1) _ S rfl (OwnE.below (w := wd.drew) O2.out ((Below.refl _ _).alloc (Nat.le_refl _) _)) _ x rfl (fun j u hu => (Blk.new wd.drew (entA x) 69 rfl).cell j u hu) (by omega) (by first | omega | (simp; omega)) ?_; intro u6 w6 own6 gr6; obtain ⟨ao6, cap6, e6⟩ := own6.form; obtain ⟨n6, hn6⟩ : ∃ n6, (S ++ [x]).length = n6 := ⟨_, rfl⟩; rw [hn6] at e6; clear hn6; subst e6; (try simp only [Act.put, List.setIfInBounds_toArray, List.set_cons_zero, List.set_cons_succ]); have K6 := (K1.drew.alloc _).below gr6.below (by omega); have C6 := Blk.grow (C1.drew.alloc _) q3 gr6; have G6 := (G1.drew.alloc _).below gr6.below (by omega); have Z6 := (Z1.drew.alloc _).below gr6.below (by omega); have B6 : Below H w w6 := (B1.drew.alloc (by have := B1.size; rw [HH.out] at this; exact this) _).trans (gr6.below.mono (by omega)); have O6 : Hid (OwnE w6 (K + 1) (Value.slice ao6 n6 cap6) (S ++ [x])) := own6; clear own6 gr6; have k6 := K6.cell 2 _ rfl; have kf6 := K6.froz 2; have lk6 := K6.lt))
                all_goals (have K7 : Blk (w6.setCell ⟨K, 2, none⟩ (Value.slice ao6 n6 cap6)) K [.int .i64 g0, .int .i64 g1, .slice ao6 n6 cap6] := K6.set 2 _ (by simp)
                           have C7 := C6.1.other (p := ⟨K, 2, none⟩) (fun h' => by have h2 : K = M := h'; omega) (Value.slice ao6 n6 cap6)
                           have G7 := G6.other (p := ⟨K, 2, none⟩) (fun h' => by have h2 : K = H + 1 := h'; omega) (Value.slice ao6 n6 cap6)
                           have Z7 := Z6.other (p := ⟨K, 2, none⟩) (fun h' => by have h2 : K = H + 1 + 1 := h'; omega) (Value.slice ao6 n6 cap6)
                           have B7 : Below H w (w6.setCell ⟨K, 2, none⟩ (Value.slice ao6 n6 cap6)) := B6.setCell (by show H ≤ K; omega) _
                           have O7 : Hid (OwnE (w6.setCell ⟨K, 2, none⟩ (Value.slice ao6 n6 cap6)) (K + 1) (Value.slice ao6 n6 cap6) (S ++ [x])) := O6.out.set (by omega)
                           have A7 := C6.2
                           generalize w6.setCell ⟨K, 2, none⟩ (Value.slice ao6 n6 cap6) = w7 at K7 C7 G7 Z7 B7 O7 ⊢
                           clear K6 C6 G6 Z6 B6 O6 k6 kf6 lk6
                           go_wp2_with fail
                           go_roundw
                           case rel => exact ⟨i + 1, S ++ [x], _, by omega, by go_num, NX.out, by rw [List.length_append]; simp; omega, K7, O7.out, A7, C7, G7, Z7, B7⟩
                           case measure => simp [intOf]; omega)
              · by_cases heq : x.i = r1
                · have CX : Hid (∀ j u, (entC x)[j]? = some u → wr.cell? ⟨wb, wo + i * 9 + j, none⟩ = some u) := c1
                  clear hx RW c1
                  have dne : (x.i == r1) = true := by simpa using heq
                  have HEQ : Hid (x.i = r1) := heq
                  clear heq
                  by_cases h0 : r0 = 0
                  · have TN : T = none := by
                      rw [← HT1.out]
                      exact apS_there (Aa := Aa) (nw := nw) (A := A) (n := n) (S := S) (i := i) (k := k) hin hlt (by rw [HX.out, HAR.out]; exact HEQ.out) (by rw [HAR.out]; exact h0)
                    subst h0
                    have k1 := F1.out TN
                    obtain ⟨k2, k3, k4⟩ := HZ.out (by rw [k1]; decide)
                    subst k1 k2 k3 k4
                    clear F1 F2 F3 HZ
                    go_wp2_with fail
                    go_quiet (fail)
                    obtain ⟨nqa, hnqa⟩ : ∃ x, nq = x := ⟨_, rfl⟩
                    rw [hnqa]
                    clear nq hnqa
                    go_upto_region 21 with fail
                    go_quiet (fail)
                    have K1 := (q1.drewN nqa).drewN nq
                    have C1 := (q4.drewN nqa).drewN nq
                    have G1 := (q5.drewN nqa).drewN nq
                    have Z1 := (q6.drewN nqa).drewN nq
                    have B1 := below_drewN (below_drewN q7 nqa) nq
                    have O2 : Hid (OwnE ((wr.drewN nqa).drewN nq) (K + 1) ov S) := O1.out
                    have CD : Hid (∀ j u, (entC x)[j]? = some u → ((wr.drewN nqa).drewN nq).cell? ⟨wb, wo + i * 9 + j, none⟩ = some u) := CX.out
                    clear q1 q4 q5 q6 q7 O1 y1 lM CX z0
                    generalize (wr.drewN nqa).drewN nq = wd at K1 C1 G1 Z1 B1 O2 CD ⊢
                    obtain ⟨oa, oc, rfl⟩ := O2.out.form
                    have y0 := C1.cell 0 _ rfl
                    have y1 := C1.cell 1 _ rfl
                    have y2 := C1.cell 2 _ rfl
                    have y3 := C1.cell 3 _ rfl
                    have y4 := C1.cell 4 _ rfl
                    have y5 := C1.cell 5 _ rfl
                    have y6 := C1.cell 6 _ rfl
                    have y7 := C1.cell 7 _ rfl
                    have y8 := C1.cell 8 _ rfl
                    have lM := C1.lt
                    have d0 := Z1.cell 0 _ rfl
                    have f0 := Z1.froz 0
                    have d1 := Z1.cell 1 _ rfl
                    have f1 := Z1.froz 1
                    have d2 := Z1.cell 2 _ rfl
                    have f2 := Z1.froz 2
                    have lr := Z1.lt
                    go_wp2_with fail
                    have RB := blk_three (x0 := .int .i64 0) (x1 := .int .i64 0) (x2 := .slice none 0 0) Z1
                    have LB := below_three (x0 := .int .i64 0) (x1 := .int .i64 0) (x2 := .slice none 0 0) B1 (show H ≤ H + 1 + 1 by omega)
                    generalize ((wd.setCell ⟨H + 1 + 1, 0, none⟩ (.int .i64 0)).setCell ⟨H + 1 + 1, 1, none⟩ (.int .i64 0)).setCell ⟨H + 1 + 1, 2, none⟩ (.slice none 0 0) = W9 at RB LB ⊢
                    have h0 := RB.cell 0 _ rfl
                    have h1 := RB.cell 1 _ rfl
                    have h2 := RB.cell 2 _ rfl
                    refine bodyPost_ret (v := .tuple #[snV (0) (0) (.slice none 0 0), .int .i64 15]) (by simp [results, Tryz.results39, go_sem, h0, h1, h2]) rfl ⟨_, rfl, OwnE.nil' _ _, by rw [HH.out]; exact LB⟩
                  · by_cases h2 : r0 = 2
                    · have NX : Hid (apS Aa nw A n S (i + 1) (k + 1) = T) := (apS_rem (Aa := Aa) (nw := nw) (A := A) (n := n) (S := S) (i := i) (k := k) hin hlt (by rw [HX.out, HAR.out]; exact HEQ.out) (by rw [HAR.out]; exact h2)).symm.trans HT1.out
                      subst h2
                      go_wp2_with fail
                      go_quiet (fail)
                      obtain ⟨nqa, hnqa⟩ : ∃ x, nq = x := ⟨_, rfl⟩
                      rw [hnqa]
                      clear nq hnqa
                      go_upto_region 21 with fail
                      go_quiet (fail)
                      have K1 := (q1.drewN nqa).drewN nq
                      have C1 := (q4.drewN nqa).drewN nq
                      have G1 := (q5.drewN nqa).drewN nq
                      have Z1 := (q6.drewN nqa).drewN nq
                      have B1 := below_drewN (below_drewN q7 nqa) nq
                      have O2 : Hid (OwnE ((wr.drewN nqa).drewN nq) (K + 1) ov S) := O1.out
                      have CD : Hid (∀ j u, (entC x)[j]? = some u → ((wr.drewN nqa).drewN nq).cell? ⟨wb, wo + i * 9 + j, none⟩ = some u) := CX.out
                      clear q1 q4 q5 q6 q7 O1 y1 lM CX z0
                      generalize (wr.drewN nqa).drewN nq = wd at K1 C1 G1 Z1 B1 O2 CD ⊢
                      obtain ⟨oa, oc, rfl⟩ := O2.out.form
                      have y0 := C1.cell 0 _ rfl
                      have y1 := C1.cell 1 _ rfl
                      have y2 := C1.cell 2 _ rfl
                      have y3 := C1.cell 3 _ rfl
                      have y4 := C1.cell 4 _ rfl
                      have y5 := C1.cell 5 _ rfl
                      have y6 := C1.cell 6 _ rfl
                      have y7 := C1.cell 7 _ rfl
                      have y8 := C1.cell 8 _ rfl
                      have lM := C1.lt
                      go_wp2_with fail
                      go_roundw
                      case rel => exact ⟨i + 1, k + 1, S, _, by omega, by omega, by go_num, by go_num, NX.out, by omega, K1, O2.out, G1, Z1, B1⟩
                      case measure => simp [intOf]; omega
                    · have NX0 := (apS_new (Aa := Aa) (nw := nw) (A := A) (n := n) (S := S) (i := i) (k := k) hin hlt (by rw [HX.out, HAR.out]; exact HEQ.out) (by rw [HAR.out]; exact h0) (by rw [HAR.out]; exact h2)).symm.trans HT1.out
                      rw [HX.out, HAR.out] at NX0
                      have HAP : ∀ w', Calls Tryz.prog 64 #[entV x, recV ⟨r0, r1, r2, r3, r4, r5, r6, r7, r8⟩] w' fun e w'' => e = .returned (.tuple #[entV (appN x ⟨r0, r1, r2, r3, r4, r5, r6, r7, r8⟩), .int .i64 (appE x ⟨r0, r1, r2, r3, r4, r5, r6, r7, r8⟩)]) ∧ Below w'.heap.size w' w'' := fun w' => doc_apply w' x ⟨r0, r1, r2, r3, r4, r5, r6, r7, r8⟩
                      obtain ⟨N, hN⟩ : ∃ N, appN x ⟨r0, r1, r2, r3, r4, r5, r6, r7, r8⟩ = N := ⟨_, rfl⟩
                      obtain ⟨ea, hea⟩ : ∃ N, appE x ⟨r0, r1, r2, r3, r4, r5, r6, r7, r8⟩ = N := ⟨_, rfl⟩
                      rw [hN] at NX0 HAP
                      rw [hea] at HAP
                      have HAPP : Hid (∀ w', Calls Tryz.prog 64 #[entV x, recV ⟨r0, r1, r2, r3, r4, r5, r6, r7, r8⟩] w' fun e w'' => e = .returned (.tuple #[entV N, .int .i64 ea]) ∧ Below w'.heap.size w' w'') := HAP
                      have NX : Hid (apS Aa nw A n (S ++ [N]) (i + 1) (k + 1) = T) := NX0
                      have hq0 : (r0 == 0) = false := by simpa using h0
                      have hq2 : (r0 == 2) = false := by simpa using h2
                      have hq3 : (r0 != 2) = true := by simpa using h2
                      clear hN hea NX0 HAP
                      obtain ⟨N0, N1, N2, N3, N4, N5, N6, N7, N8⟩ := N
                      go_wp2_with fail
                      go_quiet (fail)
                      obtain ⟨nqa, hnqa⟩ : ∃ x, nq = x := ⟨_, rfl⟩
                      rw [hnqa]
                      clear nq hnqa
                      go_upto_region 21 with fail
                      go_quiet (fail)
                      have K1 := (q1.drewN nqa).drewN nq
                      have C1 := (q4.drewN nqa).drewN nq
                      have G1 := (q5.drewN nqa).drewN nq
                      have Z1 := (q6.drewN nqa).drewN nq
                      have B1 := below_drewN (below_drewN q7 nqa) nq
                      have O2 : Hid (OwnE ((wr.drewN nqa).drewN nq) (K + 1) ov S) := O1.out
                      have CD : Hid (∀ j u, (entC x)[j]? = some u → ((wr.drewN nqa).drewN nq).cell? ⟨wb, wo + i * 9 + j, none⟩ = some u) := CX.out
                      clear q1 q4 q5 q6 q7 O1 y1 lM CX z0
                      generalize (wr.drewN nqa).drewN nq = wd at K1 C1 G1 Z1 B1 O2 CD ⊢
                      obtain ⟨oa, oc, rfl⟩ := O2.out.form
                      have z0 := CD.out 0 _ rfl
                      have z1 := CD.out 1 _ rfl
                      have z2 := CD.out 2 _ rfl
                      have z3 := CD.out 3 _ rfl
                      have z4 := CD.out 4 _ rfl
                      have z5 := CD.out 5 _ rfl
                      have z6 := CD.out 6 _ rfl
                      have z7 := CD.out 7 _ rfl
                      have z8 := CD.out 8 _ rfl
                      simp only [Nat.add_zero] at z0
                      have y0 := C1.cell 0 _ rfl
                      have y1 := C1.cell 1 _ rfl
                      have y2 := C1.cell 2 _ rfl
                      have y3 := C1.cell 3 _ rfl
                      have y4 := C1.cell 4 _ rfl
                      have y5 := C1.cell 5 _ rfl
                      have y6 := C1.cell 6 _ rfl
                      have y7 := C1.cell 7 _ rfl
                      have y8 := C1.cell 8 _ rfl
                      have lM := C1.lt
                      have lwb : wb < wd.heap.size := World.block_lt_of_cell? wd _ z0
                      go_upto_region 27 with fail
                      go_cut [13] (fun p wx => ∃ P, p = .pointer (some ⟨P, 0, none⟩) ∧ Blk wx P [.int .i64 N0, .int .i64 N1, .int .i64 N2, .int .i64 N3, .int .i64 N4, .int .i64 N5, .int .i64 N6, .int .u16 N7, .int .u8 N8] ∧ Blk wx K [.int .i64 g0, .int .i64 g1, .slice oa S.length oc] ∧ Blk wx M [.int .i64 r0, .int .i64 r1, .int .i64 r2, .int .i64 r3, .int .i64 r4, .int .i64 r5, .int .i64 r6, .int .i64 r7, .int .u16 r8] ∧ Blk wx (H + 1) [.int .i64 g0, .int .i64 g1, .int .i64 g2, .slice (some ⟨c1', o1, none⟩) n cap] ∧ Blk wx (H + 1 + 1) [.int .i64 0, .int .i64 0, .slice none 0 0] ∧ OwnE wx (K + 1) (.slice oa S.length oc) S ∧ Below H w wx)
                      case first =>
                        have lwa := wd.heap.size
                        have nK : wd.heap.size ≠ K := by have := K1.lt; omega
                        have nM : wd.heap.size ≠ M := by omega
                        have nWb : wd.heap.size ≠ wb := by omega
                        have nG : wd.heap.size ≠ H + 1 := by have := G1.lt; omega
                        have nZ : wd.heap.size ≠ H + 1 + 1 := by have := Z1.lt; omega
                        have nH : H ≤ wd.heap.size := by have := Z1.lt; omega
                        have nO : some wd.heap.size ≠ (Value.slice oa S.length oc).ownBlock := fun h' => by have := (O2.out.lt _ h'.symm).2; omega
                        have zp := (Below.refl wd.heap.size wd).alloc (Nat.le_refl _) (.cells #[.int .i64 0, .int .i64 0, .int .i64 0, .int .i64 0, .int .i64 0, .int .i64 0, .int .i64 0, .int .u16 0, .int .u8 0] 69)
                        have lwbp : wb < (World.drew (wd.alloc (.cells #[.int .i64 0, .int .i64 0, .int .i64 0, .int .i64 0, .int .i64 0, .int .i64 0, .int .i64 0, .int .u16 0, .int .u8 0] 69))).heap.size := Nat.lt_of_lt_of_le lwb zp.size
                        have BP : Below H w (wd.alloc (.cells #[.int .i64 0, .int .i64 0, .int .i64 0, .int .i64 0, .int .i64 0, .int .i64 0, .int .i64 0, .int .u16 0, .int .u8 0] 69)) := bup B1 (Nat.le_of_eq HH.out.symm) zp
                        have OP : Hid (OwnE (wd.alloc (.cells #[.int .i64 0, .int .i64 0, .int .i64 0, .int .i64 0, .int .i64 0, .int .i64 0, .int .i64 0, .int .u16 0, .int .u8 0] 69)) (K + 1) (.slice oa S.length oc) S) := OwnE.below O2.out zp
                        have DP := Blk.new wd #[.int .i64 0, .int .i64 0, .int .i64 0, .int .i64 0, .int .i64 0, .int .i64 0, .int .i64 0, .int .u16 0, .int .u8 0] 69 rfl
                        have z0_p := (zp.cell (p := ⟨wb, wo + i * 9, none⟩) lwb).trans z0; have z1_p := (zp.cell (p := ⟨wb, wo + i * 9 + 1, none⟩) lwb).trans z1; have z2_p := (zp.cell (p := ⟨wb, wo + i * 9 + 2, none⟩) lwb).trans z2; have z3_p := (zp.cell (p := ⟨wb, wo + i * 9 + 3, none⟩) lwb).trans z3; have z4_p := (zp.cell (p := ⟨wb, wo + i * 9 + 4, none⟩) lwb).trans z4; have z5_p := (zp.cell (p := ⟨wb, wo + i * 9 + 5, none⟩) lwb).trans z5; have z6_p := (zp.cell (p := ⟨wb, wo + i * 9 + 6, none⟩) lwb).trans z6; have z7_p := (zp.cell (p := ⟨wb, wo + i * 9 + 7, none⟩) lwb).trans z7; have z8_p := (zp.cell (p := ⟨wb, wo + i * 9 + 8, none⟩) lwb).trans z8
                        have y0_p := (C1.alloc (.cells #[.int .i64 0, .int .i64 0, .int .i64 0, .int .i64 0, .int .i64 0, .int .i64 0, .int .i64 0, .int .u16 0, .int .u8 0] 69)).cell 0 _ rfl; have y1_p := (C1.alloc (.cells #[.int .i64 0, .int .i64 0, .int .i64 0, .int .i64 0, .int .i64 0, .int .i64 0, .int .i64 0, .int .u16 0, .int .u8 0] 69)).cell 1 _ rfl; have y2_p := (C1.alloc (.cells #[.int .i64 0, .int .i64 0, .int .i64 0, .int .i64 0, .int .i64 0, .int .i64 0, .int .i64 0, .int .u16 0, .int .u8 0] 69)).cell 2 _ rfl; have y3_p := (C1.alloc (.cells #[.int .i64 0, .int .i64 0, .int .i64 0, .int .i64 0, .int .i64 0, .int .i64 0, .int .i64 0, .int .u16 0, .int .u8 0] 69)).cell 3 _ rfl; have y4_p := (C1.alloc (.cells #[.int .i64 0, .int .i64 0, .int .i64 0, .int .i64 0, .int .i64 0, .int .i64 0, .int .i64 0, .int .u16 0, .int .u8 0] 69)).cell 4 _ rfl; have y5_p := (C1.alloc (.cells #[.int .i64 0, .int .i64 0, .int .i64 0, .int .i64 0, .int .i64 0, .int .i64 0, .int .i64 0, .int .u16 0, .int .u8 0] 69)).cell 5 _ rfl; have y6_p := (C1.alloc (.cells #[.int .i64 0, .int .i64 0, .int .i64 0, .int .i64 0, .int .i64 0, .int .i64 0, .int .i64 0, .int .u16 0, .int .u8 0] 69)).cell 6 _ rfl; have y7_p := (C1.alloc (.cells #[.int .i64 0, .int .i64 0, .int .i64 0, .int .i64 0, .int .i64 0, .int .i64 0, .int .i64 0, .int .u16 0, .int .u8 0] 69)).cell 7 _ rfl; have y8_p := (C1.alloc (.cells #[.int .i64 0, .int .i64 0, .int .i64 0, .int .i64 0, .int .i64 0, .int .i64 0, .int .i64 0, .int .u16 0, .int .u8 0] 69)).cell 8 _ rfl
                        go_region_held3 (fun w' => w'.cell? ⟨wb, wo + i * 9, none⟩ = some (.int .i64 x.i) ∧ w'.cell? ⟨wb, wo + i * 9 + 1, none⟩ = some (.int .i64 x.p0) ∧ w'.cell? ⟨wb, wo + i * 9 + 2, none⟩ = some (.int .i64 x.p1) ∧ w'.cell? ⟨wb, wo + i * 9 + 3, none⟩ = some (.int .i64 x.p2) ∧ w'.cell? ⟨wb, wo + i * 9 + 4, none⟩ = some (.int .i64 x.v0) ∧ w'.cell? ⟨wb, wo + i * 9 + 5, none⟩ = some (.int .i64 x.v1) ∧ w'.cell? ⟨wb, wo + i * 9 + 6, none⟩ = some (.int .i64 x.v2) ∧ w'.cell? ⟨wb, wo + i * 9 + 7, none⟩ = some (.int .u16 x.a) ∧ w'.cell? ⟨wb, wo + i * 9 + 8, none⟩ = some (.int .u8 x.g) ∧ w'.cell? ⟨M, 0, none⟩ = some (.int .i64 r0) ∧ w'.cell? ⟨M, 1, none⟩ = some (.int .i64 r1) ∧ w'.cell? ⟨M, 2, none⟩ = some (.int .i64 r2) ∧ w'.cell? ⟨M, 3, none⟩ = some (.int .i64 r3) ∧ w'.cell? ⟨M, 4, none⟩ = some (.int .i64 r4) ∧ w'.cell? ⟨M, 5, none⟩ = some (.int .i64 r5) ∧ w'.cell? ⟨M, 6, none⟩ = some (.int .i64 r6) ∧ w'.cell? ⟨M, 7, none⟩ = some (.int .i64 r7) ∧ w'.cell? ⟨M, 8, none⟩ = some (.int .u16 r8)) (first | with_reducible exact ⟨z0, z1, z2, z3, z4, z5, z6, z7, z8, y0, y1, y2, y3, y4, y5, y6, y7, y8⟩ | with_reducible exact ⟨z0_b, z1_b, z2_b, z3_b, z4_b, z5_b, z6_b, z7_b, z8_b, y0_b, y1_b, y2_b, y3_b, y4_b, y5_b, y6_b, y7_b, y8_b⟩ | with_reducible exact ⟨z0_p, z1_p, z2_p, z3_p, z4_p, z5_p, z6_p, z7_p, z8_p, y0_p, y1_p, y2_p, y3_p, y4_p, y5_p, y6_p, y7_p, y8_p⟩ | with_reducible exact ⟨far9 z0_b nWb, far9 z1_b nWb, far9 z2_b nWb, far9 z3_b nWb, far9 z4_b nWb, far9 z5_b nWb, far9 z6_b nWb, far9 z7_b nWb, far9 z8_b nWb, far9 y0_b nM, far9 y1_b nM, far9 y2_b nM, far9 y3_b nM, far9 y4_b nM, far9 y5_b nM, far9 y6_b nM, far9 y7_b nM, far9 y8_b nM⟩ | with_reducible exact ⟨far9d z0_b nWb, far9d z1_b nWb, far9d z2_b nWb, far9d z3_b nWb, far9d z4_b nWb, far9d z5_b nWb, far9d z6_b nWb, far9d z7_b nWb, far9d z8_b nWb, far9d y0_b nM, far9d y1_b nM, far9d y2_b nM, far9d y3_b nM, far9d y4_b nM, far9d y5_b nM, far9d y6_b nM, far9d y7_b nM, far9d y8_b nM⟩ | go_keep)
                          (first | (go_at_call 64; (with_reducible refine (HAPP.out wd.drew).mono ?_); rintro e w8 ⟨rfl, b8⟩; have K8 := Blk.below (K1.drew) b8 (K1.drew).lt; have C8 := Blk.below (C1.drew) b8 (C1.drew).lt; have G8 := Blk.below (G1.drew) b8 (G1.drew).lt; have Z8 := Blk.below (Z1.drew) b8 (Z1.drew).lt; have B8 : Below H w w8 := bup B1.drew (Nat.le_of_eq HH.out.symm) b8; have O8 : Hid (OwnE w8 (K + 1) (.slice oa S.length oc) S) := OwnE.below (w := wd.drew) O2.out b8; have CD8 : Hid (∀ j u, (entC x)[j]? = some u → w8.cell? ⟨wb, wo + i * 9 + j, none⟩ = some u) := fun j u hu => (b8.cell (p := ⟨wb, wo + i * 9 + j, none⟩) lwb).trans (CD.out j u hu); have z0_b := CD8.out 0 _ rfl; have z1_b := CD8.out 1 _ rfl; have z2_b := CD8.out 2 _ rfl; have z3_b := CD8.out 3 _ rfl; have z4_b := CD8.out 4 _ rfl; have z5_b := CD8.out 5 _ rfl; have z6_b := CD8.out 6 _ rfl; have z7_b := CD8.out 7 _ rfl; have z8_b := CD8.out 8 _ rfl; simp only [Nat.add_zero] at z0_b; have y0_b := C8.cell 0 _ rfl; have y1_b := C8.cell 1 _ rfl; have y2_b := C8.cell 2 _ rfl; have y3_b := C8.cell 3 _ rfl; have y4_b := C8.cell 4 _ rfl; have y5_b := C8.cell 5 _ rfl; have y6_b := C8.cell 6 _ rfl; have y7_b := C8.cell 7 _ rfl; have y8_b := C8.cell 8 _ rfl) | (go_at_call 64; (with_reducible refine (HAPP.out (World.drew (wd.alloc (.cells #[.int .i64 0, .int .i64 0, .int .i64 0, .int .i64 0, .int .i64 0, .int .i64 0, .int .i64 0, .int .u16 0, .int .u8 0] 69)))).mono ?_); rintro e w8 ⟨rfl, b8⟩; have K8 := Blk.below ((K1.alloc (.cells #[.int .i64 0, .int .i64 0, .int .i64 0, .int .i64 0, .int .i64 0, .int .i64 0, .int .i64 0, .int .u16 0, .int .u8 0] 69)).drew) b8 ((K1.alloc (.cells #[.int .i64 0, .int .i64 0, .int .i64 0, .int .i64 0, .int .i64 0, .int .i64 0, .int .i64 0, .int .u16 0, .int .u8 0] 69)).drew).lt; have C8 := Blk.below ((C1.alloc (.cells #[.int .i64 0, .int .i64 0, .int .i64 0, .int .i64 0, .int .i64 0, .int .i64 0, .int .i64 0, .int .u16 0, .int .u8 0] 69)).drew) b8 ((C1.alloc (.cells #[.int .i64 0, .int .i64 0, .int .i64 0, .int .i64 0, .int .i64 0, .int .i64 0, .int .i64 0, .int .u16 0, .int .u8 0] 69)).drew).lt; have G8 := Blk.below ((G1.alloc (.cells #[.int .i64 0, .int .i64 0, .int .i64 0, .int .i64 0, .int .i64 0, .int .i64 0, .int .i64 0, .int .u16 0, .int .u8 0] 69)).drew) b8 ((G1.alloc (.cells #[.int .i64 0, .int .i64 0, .int .i64 0, .int .i64 0, .int .i64 0, .int .i64 0, .int .i64 0, .int .u16 0, .int .u8 0] 69)).drew).lt; have Z8 := Blk.below ((Z1.alloc (.cells #[.int .i64 0, .int .i64 0, .int .i64 0, .int .i64 0, .int .i64 0, .int .i64 0, .int .i64 0, .int .u16 0, .int .u8 0] 69)).drew) b8 ((Z1.alloc (.cells #[.int .i64 0, .int .i64 0, .int .i64 0, .int .i64 0, .int .i64 0, .int .i64 0, .int .i64 0, .int .u16 0, .int .u8 0] 69)).drew).lt; have B8 : Below H w w8 := bup (BP.drew) (Nat.le_of_eq HH.out.symm) b8; have O8 : Hid (OwnE w8 (K + 1) (.slice oa S.length oc) S) := OwnE.below (w := (World.drew (wd.alloc (.cells #[.int .i64 0, .int .i64 0, .int .i64 0, .int .i64 0, .int .i64 0, .int .i64 0, .int .i64 0, .int .u16 0, .int .u8 0] 69)))) OP.out b8; have D8 := Blk.below DP.drew b8 DP.lt; have CD8 : Hid (∀ j u, (entC x)[j]? = some u → w8.cell? ⟨wb, wo + i * 9 + j, none⟩ = some u) := fun j u hu => (b8.cell (p := ⟨wb, wo + i * 9 + j, none⟩) lwbp).trans ((zp.cell (p := ⟨wb, wo + i * 9 + j, none⟩) lwb).trans (CD.out j u hu)); have z0_b := CD8.out 0 _ rfl; have z1_b := CD8.out 1 _ rfl; have z2_b := CD8.out 2 _ rfl; have z3_b := CD8.out 3 _ rfl; have z4_b := CD8.out 4 _ rfl; have z5_b := CD8.out 5 _ rfl; have z6_b := CD8.out 6 _ rfl; have z7_b := CD8.out 7 _ rfl; have z8_b := CD8.out 8 _ rfl; simp only [Nat.add_zero] at z0_b; have y0_b := C8.cell 0 _ rfl; have y1_b := C8.cell 1 _ rfl; have y2_b := C8.cell 2 _ rfl; have y3_b := C8.cell 3 _ rfl; have y4_b := C8.cell 4 _ rfl; have y5_b := C8.cell 5 _ rfl; have y6_b := C8.cell 6 _ rfl; have y7_b := C8.cell 7 _ rfl; have y8_b := C8.cell 8 _ rfl; have e0 := D8.cell 0 _ rfl; have ef0 := D8.froz 0; have e1 := D8.cell 1 _ rfl; have ef1 := D8.froz 1; have e2 := D8.cell 2 _ rfl; have ef2 := D8.froz 2; have e3 := D8.cell 3 _ rfl; have ef3 := D8.froz 3; have e4 := D8.cell 4 _ rfl; have ef4 := D8.froz 4; have e5 := D8.cell 5 _ rfl; have ef5 := D8.froz 5; have e6 := D8.cell 6 _ rfl; have ef6 := D8.froz 6; have e7 := D8.cell 7 _ rfl; have ef7 := D8.froz 7; have e8 := D8.cell 8 _ rfl; have ef8 := D8.froz 8; have eD := D8.lt))
                        all_goals (go_wp2_with fail)
                        all_goals go_meet
                        · refine ⟨_, rfl, ?_, ?_, ?_, ?_, ?_, ?_, ?_⟩
                          · exact Blk.new w8 _ _ rfl
                          · exact K8.alloc _
                          · exact C8.alloc _
                          · exact G8.alloc _
                          · exact Z8.alloc _
                          · exact O8.out.below ((Below.refl _ _).alloc (Nat.le_refl _) _)
                          · exact B8.alloc (by have := B8.size; rw [HH.out] at this; exact this) _
                        · refine ⟨_, rfl, ?_, ?_, ?_, ?_, ?_, ?_, ?_⟩
                          · exact Blk.nine D8
                          · exact Blk.others K8 nK
                          · exact Blk.others C8 nM
                          · exact Blk.others G8 nG
                          · exact Blk.others Z8 nZ
                          · exact ownE_nine O8.out nO
                          · exact below_nine B8 nH
                      case rest =>
                        clear z0 z1 z2 z3 z4 z5 z6 z7 z8 y0 y1 y2 y3 y4 y5 y6 y7 y8 lM lwb CD K1 C1 G1 Z1 B1 O2 HAPP
                        obtain ⟨P, rfl, D1, K1, C1, G1, Z1, o2, B1⟩ := hcut
                        have O2 : Hid (OwnE wc (K + 1) (.slice oa S.length oc) S) := o2
                        clear o2
                        generalize wc = wd at D1 K1 C1 G1 Z1 B1 O2 ⊢
                        have d0 := D1.cell 0 _ rfl
                        have d1 := D1.cell 1 _ rfl
                        have d2 := D1.cell 2 _ rfl
                        have d3 := D1.cell 3 _ rfl
                        have d4 := D1.cell 4 _ rfl
                        have d5 := D1.cell 5 _ rfl
                        have d6 := D1.cell 6 _ rfl
                        have d7 := D1.cell 7 _ rfl
                        have d8 := D1.cell 8 _ rfl
                        have lD := D1.lt
                        have k2 := K1.cell 2 _ rfl
                        have kf2 := K1.froz 2
                        have lk := K1.lt
                        have HOB : Hid (OwnE (wd.alloc (.cells (entA (⟨N0, N1, N2, N3, N4, N5, N6, N7, N8⟩ : En)) 69)) (K + 1) (.slice oa S.length oc) S) := OwnE.below O2.out ((Below.refl _ _).alloc (Nat.le_refl _) _)
                        have HNC : Hid (∀ j u, (entC (⟨N0, N1, N2, N3, N4, N5, N6, N7, N8⟩ : En))[j]? = some u → (wd.alloc (.cells (entA (⟨N0, N1, N2, N3, N4, N5, N6, N7, N8⟩ : En)) 69)).cell? ⟨wd.heap.size, j, none⟩ = some u) := fun j u hu => (Blk.new wd (entA (⟨N0, N1, N2, N3, N4, N5, N6, N7, N8⟩ : En)) 69 rfl).cell j u hu
                        have hSL : S.length ≤ 1000000 := by omega
                        have hKA : K + 1 ≤ (wd.alloc (.cells (entA (⟨N0, N1, N2, N3, N4, N5, N6, N7, N8⟩ : En)) 69)).heap.size := by simp; omega
                        go_wp2_with (at_builtin; refine growE_wp rfl _ _ rfl (K + 1) _ S rfl (by exact HOB.out) wd.heap.size (⟨N0, N1, N2, N3, N4, N5, N6, N7, N8⟩ : En) rfl (by exact HNC.out) hSL hKA ?_; intro u6 w6 own6 gr6; obtain ⟨ao6, cap6, e6⟩ := own6.form; obtain ⟨n6, hn6⟩ : ∃ n6, (S ++ [(⟨N0, N1, N2, N3, N4, N5, N6, N7, N8⟩ : En)]).length = n6 := ⟨_, rfl⟩; rw [hn6] at e6; clear hn6; subst e6; (try simp only [Act.put, List.setIfInBounds_toArray, List.set_cons_zero, List.set_cons_succ]); have K6 := (K1.alloc _).below gr6.below (by omega); have C6 := Blk.grow (C1.alloc _) q3 gr6; have G6 := (G1.alloc _).below gr6.below (by omega); have Z6 := (Z1.alloc _).below gr6.below (by omega); have B6 : Below H w w6 := (B1.alloc (by have := B1.size; rw [HH.out] at this; exact this) _).trans (gr6.below.mono (by omega)); have O6 : Hid (OwnE w6 (K + 1) (Value.slice ao6 n6 cap6) (S ++ [(⟨N0, N1, N2, N3, N4, N5, N6, N7, N8⟩ : En)])) := own6; clear own6 gr6; have k6 := K6.cell 2 _ rfl; have kf6 := K6.froz 2; have lk6 := K6.lt)
                        have K7 : Blk (w6.setCell ⟨K, 2, none⟩ (Value.slice ao6 n6 cap6)) K [.int .i64 g0, .int .i64 g1, .slice ao6 n6 cap6] := K6.set 2 _ (by simp)
                        have C7 := C6.1.other (p := ⟨K, 2, none⟩) (fun h' => by have h2 : K = M := h'; omega) (Value.slice ao6 n6 cap6)
                        have G7 := G6.other (p := ⟨K, 2, none⟩) (fun h' => by have h2 : K = H + 1 := h'; omega) (Value.slice ao6 n6 cap6)
                        have Z7 := Z6.other (p := ⟨K, 2, none⟩) (fun h' => by have h2 : K = H + 1 + 1 := h'; omega) (Value.slice ao6 n6 cap6)
                        have B7 : Below H w (w6.setCell ⟨K, 2, none⟩ (Value.slice ao6 n6 cap6)) := B6.setCell (by show H ≤ K; omega) _
                        have O7 : Hid (OwnE (w6.setCell ⟨K, 2, none⟩ (Value.slice ao6 n6 cap6)) (K + 1) (Value.slice ao6 n6 cap6) (S ++ [(⟨N0, N1, N2, N3, N4, N5, N6, N7, N8⟩ : En)])) := O6.out.set (by omega)
                        have A7 := C6.2
                        generalize w6.setCell ⟨K, 2, none⟩ (Value.slice ao6 n6 cap6) = w7 at K7 C7 G7 Z7 B7 O7 ⊢
                        clear K6 C6 G6 Z6 B6 O6 k6 kf6 lk6
                        go_wp2_with fail
                        go_roundw
                        case rel => exact ⟨i + 1, k + 1, S ++ [(⟨N0, N1, N2, N3, N4, N5, N6, N7, N8⟩ : En)], _, by omega, by omega, by go_num, by go_num, NX.out, by rw [List.length_append]; simp; omega, K7, O7.out, G7, Z7, B7⟩
                        case measure => simp [intOf]; omega
                · have CX : Hid (∀ j u, (entC x)[j]? = some u → wr.cell? ⟨wb, wo + i * 9 + j, none⟩ = some u) := c1
                  clear hx RW c1
                  have dne : (x.i == r1) = false := by simpa using heq
                  by_cases h0 : r0 = 0
                  · have NX : Hid (apS Aa nw A n (S ++ [newE ⟨r0, r1, r2, r3, r4, r5, r6, r7, r8⟩]) i (k + 1) = T) := by
                      have e := apS_put (Aa := Aa) (nw := nw) (A := A) (n := n) (S := S) (i := i) (k := k) hlt (fun _ => by rw [HX.out, HAR.out]; show r1 < x.i; omega) (by rw [HAR.out]; exact h0)
                      rw [HAR.out] at e
                      exact e.symm.trans HT1.out
                    subst h0
                    go_wp2_with fail
                    go_quiet (fail)
                    obtain ⟨nqa, hnqa⟩ : ∃ x, nq = x := ⟨_, rfl⟩
                    rw [hnqa]
                    clear nq hnqa
                    go_upto_region 21 with fail
                    go_quiet (fail)
                    have K1 := (q1.drewN nqa).drewN nq
                    have C1 := (q4.drewN nqa).drewN nq
                    have G1 := (q5.drewN nqa).drewN nq
                    have Z1 := (q6.drewN nqa).drewN nq
                    have B1 := below_drewN (below_drewN q7 nqa) nq
                    have O2 : Hid (OwnE ((wr.drewN nqa).drewN nq) (K + 1) ov S) := O1.out
                    have CD : Hid (∀ j u, (entC x)[j]? = some u → ((wr.drewN nqa).drewN nq).cell? ⟨wb, wo + i * 9 + j, none⟩ = some u) := CX.out
                    clear q1 q4 q5 q6 q7 O1 y1 lM CX z0
                    generalize (wr.drewN nqa).drewN nq = wd at K1 C1 G1 Z1 B1 O2 CD ⊢
                    obtain ⟨oa, oc, rfl⟩ := O2.out.form
                    have y0 := C1.cell 0 _ rfl
                    have y1 := C1.cell 1 _ rfl
                    have y2 := C1.cell 2 _ rfl
                    have y3 := C1.cell 3 _ rfl
                    have y4 := C1.cell 4 _ rfl
                    have y5 := C1.cell 5 _ rfl
                    have y6 := C1.cell 6 _ rfl
                    have y7 := C1.cell 7 _ rfl
                    have y8 := C1.cell 8 _ rfl
                    have lM := C1.lt
                    have k2 := K1.cell 2 _ rfl
                    have kf2 := K1.froz 2
                    have lk := K1.lt
                    go_wp2_with (at_builtin; refine growE_wp rfl _ _ rfl (K + 1) _ S rfl (by exact OwnE.below O2.out ((Below.refl _ _).alloc (Nat.le_refl _) _)) _ (newE ⟨0, r1, r2, r3, r4, r5, r6, r7, r8⟩) rfl (fun j u hu => (Blk.new wd (entA (newE ⟨0, r1, r2, r3, r4, r5, r6, r7, r8⟩)) 69 rfl).cell j u hu) (by omega) (by first | omega | (simp; omega)) ?_; intro u6 w6 own6 gr6; obtain ⟨ao6, cap6, e6⟩ := own6.form; obtain ⟨n6, hn6⟩ : ∃ n6, (S ++ [newE ⟨0, r1, r2, r3, r4, r5, r6, r7, r8⟩]).length = n6 := ⟨_, rfl⟩; rw [hn6] at e6; clear hn6; subst e6; (try simp only [Act.put, List.setIfInBounds_toArray, List.set_cons_zero, List.set_cons_succ]); have K6 := (K1.alloc _).below gr6.below (by omega); have C6 := Blk.grow (C1.alloc _) q3 gr6; have G6 := (G1.alloc _).below gr6.below (by omega); have Z6 := (Z1.alloc _).below gr6.below (by omega); have B6 : Below H w w6 := (B1.alloc (by have := B1.size; rw [HH.out] at this; exact this) _).trans (gr6.below.mono (by omega)); have O6 : Hid (OwnE w6 (K + 1) (Value.slice ao6 n6 cap6) (S ++ [newE ⟨0, r1, r2, r3, r4, r5, r6, r7, r8⟩])) := own6; clear own6 gr6; have k6 := K6.cell 2 _ rfl; have kf6 := K6.froz 2; have lk6 := K6.lt)
                    have K7 : Blk (w6.setCell ⟨K, 2, none⟩ (Value.slice ao6 n6 cap6)) K [.int .i64 g0, .int .i64 g1, .slice ao6 n6 cap6] := K6.set 2 _ (by simp)
                    have C7 := C6.1.other (p := ⟨K, 2, none⟩) (fun h' => by have h2 : K = M := h'; omega) (Value.slice ao6 n6 cap6)
                    have G7 := G6.other (p := ⟨K, 2, none⟩) (fun h' => by have h2 : K = H + 1 := h'; omega) (Value.slice ao6 n6 cap6)
                    have Z7 := Z6.other (p := ⟨K, 2, none⟩) (fun h' => by have h2 : K = H + 1 + 1 := h'; omega) (Value.slice ao6 n6 cap6)
                    have B7 : Below H w (w6.setCell ⟨K, 2, none⟩ (Value.slice ao6 n6 cap6)) := B6.setCell (by show H ≤ K; omega) _
                    have O7 : Hid (OwnE (w6.setCell ⟨K, 2, none⟩ (Value.slice ao6 n6 cap6)) (K + 1) (Value.slice ao6 n6 cap6) (S ++ [newE ⟨0, r1, r2, r3, r4, r5, r6, r7, r8⟩])) := O6.out.set (by omega)
                    have A7 := C6.2
                    generalize w6.setCell ⟨K, 2, none⟩ (Value.slice ao6 n6 cap6) = w7 at K7 C7 G7 Z7 B7 O7 ⊢
                    clear K6 C6 G6 Z6 B6 O6 k6 kf6 lk6
                    go_wp2_with fail
                    go_roundw
                    case rel => exact ⟨i, k + 1, S ++ [newE ⟨0, r1, r2, r3, r4, r5, r6, r7, r8⟩], _, by omega, by omega, by go_num, by go_num, NX.out, by rw [List.length_append]; simp; omega, K7, O7.out, G7, Z7, B7⟩
                    case measure => simp [intOf]; omega
                  · have TN : T = none := by
                      rw [← HT1.out]
                      exact apS_none (Aa := Aa) (nw := nw) (A := A) (n := n) (S := S) (i := i) (k := k) hlt (fun _ => by rw [HX.out, HAR.out]; show r1 < x.i; omega) (by rw [HAR.out]; exact h0)
                    have hq0 : (r0 == 0) = false := by simpa using h0
                    have k1 := F1.out TN
                    obtain ⟨k2, k3, k4⟩ := HZ.out (by rw [k1]; decide)
                    subst k1 k2 k3 k4
                    clear F1 F2 F3 HZ
                    go_wp2_with fail
                    go_quiet (fail)
                    obtain ⟨nqa, hnqa⟩ : ∃ x, nq = x := ⟨_, rfl⟩
                    rw [hnqa]
                    clear nq hnqa
                    go_upto_region 21 with fail
                    go_quiet (fail)
                    have K1 := (q1.drewN nqa).drewN nq
                    have C1 := (q4.drewN nqa).drewN nq
                    have G1 := (q5.drewN nqa).drewN nq
                    have Z1 := (q6.drewN nqa).drewN nq
                    have B1 := below_drewN (below_drewN q7 nqa) nq
                    have O2 : Hid (OwnE ((wr.drewN nqa).drewN nq) (K + 1) ov S) := O1.out
                    have CD : Hid (∀ j u, (entC x)[j]? = some u → ((wr.drewN nqa).drewN nq).cell? ⟨wb, wo + i * 9 + j, none⟩ = some u) := CX.out
                    clear q1 q4 q5 q6 q7 O1 y1 lM CX z0
                    generalize (wr.drewN nqa).drewN nq = wd at K1 C1 G1 Z1 B1 O2 CD ⊢
                    obtain ⟨oa, oc, rfl⟩ := O2.out.form
                    have y0 := C1.cell 0 _ rfl
                    have y1 := C1.cell 1 _ rfl
                    have y2 := C1.cell 2 _ rfl
                    have y3 := C1.cell 3 _ rfl
                    have y4 := C1.cell 4 _ rfl
                    have y5 := C1.cell 5 _ rfl
                    have y6 := C1.cell 6 _ rfl
                    have y7 := C1.cell 7 _ rfl
                    have y8 := C1.cell 8 _ rfl
                    have lM := C1.lt
                    have d0 := Z1.cell 0 _ rfl
                    have f0 := Z1.froz 0
                    have d1 := Z1.cell 1 _ rfl
                    have f1 := Z1.froz 1
                    have d2 := Z1.cell 2 _ rfl
                    have f2 := Z1.froz 2
                    have lr := Z1.lt
                    go_wp2_with fail
                    have RB := blk_three (x0 := .int .i64 0) (x1 := .int .i64 0) (x2 := .slice none 0 0) Z1
                    have LB := below_three (x0 := .int .i64 0) (x1 := .int .i64 0) (x2 := .slice none 0 0) B1 (show H ≤ H + 1 + 1 by omega)
                    generalize ((wd.setCell ⟨H + 1 + 1, 0, none⟩ (.int .i64 0)).setCell ⟨H + 1 + 1, 1, none⟩ (.int .i64 0)).setCell ⟨H + 1 + 1, 2, none⟩ (.slice none 0 0) = W9 at RB LB ⊢
                    have h0 := RB.cell 0 _ rfl
                    have h1 := RB.cell 1 _ rfl
                    have h2 := RB.cell 2 _ rfl
                    refine bodyPost_ret (v := .tuple #[snV (0) (0) (.slice none 0 0), .int .i64 15]) (by simp [results, Tryz.results39, go_sem, h0, h1, h2]) rfl ⟨_, rfl, OwnE.nil' _ _, by rw [HH.out]; exact LB⟩
            · by_cases h0 : r0 = 0
              · have NX : Hid (apS Aa nw A n (S ++ [newE ⟨r0, r1, r2, r3, r4, r5, r6, r7, r8⟩]) i (k + 1) = T) := by
                  have e := apS_put (Aa := Aa) (nw := nw) (A := A) (n := n) (S := S) (i := i) (k := k) hlt (fun h => absurd h hin) (by rw [HAR.out]; exact h0)
                  rw [HAR.out] at e
                  exact e.symm.trans HT1.out
                subst h0
                go_wp2_with fail
                go_quiet (fail)
                obtain ⟨nqa, hnqa⟩ : ∃ x, nq = x := ⟨_, rfl⟩
                rw [hnqa]
                clear nq hnqa
                go_upto_region 21 with fail
                go_quiet (fail)
                have K1 := (q1.drewN nqa).drewN nq
                have C1 := (q4.drewN nqa).drewN nq
                have G1 := (q5.drewN nqa).drewN nq
                have Z1 := (q6.drewN nqa).drewN nq
                have B1 := below_drewN (below_drewN q7 nqa) nq
                have O2 : Hid (OwnE ((wr.drewN nqa).drewN nq) (K + 1) ov S) := O1.out
                clear q1 q4 q5 q6 q7 O1 y1 lM
                generalize (wr.drewN nqa).drewN nq = wd at K1 C1 G1 Z1 B1 O2 ⊢
                obtain ⟨oa, oc, rfl⟩ := O2.out.form
                have y0 := C1.cell 0 _ rfl
                have y1 := C1.cell 1 _ rfl
                have y2 := C1.cell 2 _ rfl
                have y3 := C1.cell 3 _ rfl
                have y4 := C1.cell 4 _ rfl
                have y5 := C1.cell 5 _ rfl
                have y6 := C1.cell 6 _ rfl
                have y7 := C1.cell 7 _ rfl
                have y8 := C1.cell 8 _ rfl
                have lM := C1.lt
                have k2 := K1.cell 2 _ rfl
                have kf2 := K1.froz 2
                have lk := K1.lt
                go_wp2_with (at_builtin; refine growE_wp rfl _ _ rfl (K + 1) _ S rfl (by exact OwnE.below O2.out ((Below.refl _ _).alloc (Nat.le_refl _) _)) _ (newE ⟨0, r1, r2, r3, r4, r5, r6, r7, r8⟩) rfl (fun j u hu => (Blk.new wd (entA (newE ⟨0, r1, r2, r3, r4, r5, r6, r7, r8⟩)) 69 rfl).cell j u hu) (by omega) (by first | omega | (simp; omega)) ?_; intro u6 w6 own6 gr6; obtain ⟨ao6, cap6, e6⟩ := own6.form; obtain ⟨n6, hn6⟩ : ∃ n6, (S ++ [newE ⟨0, r1, r2, r3, r4, r5, r6, r7, r8⟩]).length = n6 := ⟨_, rfl⟩; rw [hn6] at e6; clear hn6; subst e6; (try simp only [Act.put, List.setIfInBounds_toArray, List.set_cons_zero, List.set_cons_succ]); have K6 := (K1.alloc _).below gr6.below (by omega); have C6 := Blk.grow (C1.alloc _) q3 gr6; have G6 := (G1.alloc _).below gr6.below (by omega); have Z6 := (Z1.alloc _).below gr6.below (by omega); have B6 : Below H w w6 := (B1.alloc (by have := B1.size; rw [HH.out] at this; exact this) _).trans (gr6.below.mono (by omega)); have O6 : Hid (OwnE w6 (K + 1) (Value.slice ao6 n6 cap6) (S ++ [newE ⟨0, r1, r2, r3, r4, r5, r6, r7, r8⟩])) := own6; clear own6 gr6; have k6 := K6.cell 2 _ rfl; have kf6 := K6.froz 2; have lk6 := K6.lt)
                have K7 : Blk (w6.setCell ⟨K, 2, none⟩ (Value.slice ao6 n6 cap6)) K [.int .i64 g0, .int .i64 g1, .slice ao6 n6 cap6] := K6.set 2 _ (by simp)
                have C7 := C6.1.other (p := ⟨K, 2, none⟩) (fun h' => by have h2 : K = M := h'; omega) (Value.slice ao6 n6 cap6)
                have G7 := G6.other (p := ⟨K, 2, none⟩) (fun h' => by have h2 : K = H + 1 := h'; omega) (Value.slice ao6 n6 cap6)
                have Z7 := Z6.other (p := ⟨K, 2, none⟩) (fun h' => by have h2 : K = H + 1 + 1 := h'; omega) (Value.slice ao6 n6 cap6)
                have B7 : Below H w (w6.setCell ⟨K, 2, none⟩ (Value.slice ao6 n6 cap6)) := B6.setCell (by show H ≤ K; omega) _
                have O7 : Hid (OwnE (w6.setCell ⟨K, 2, none⟩ (Value.slice ao6 n6 cap6)) (K + 1) (Value.slice ao6 n6 cap6) (S ++ [newE ⟨0, r1, r2, r3, r4, r5, r6, r7, r8⟩])) := O6.out.set (by omega)
                have A7 := C6.2
                generalize w6.setCell ⟨K, 2, none⟩ (Value.slice ao6 n6 cap6) = w7 at K7 C7 G7 Z7 B7 O7 ⊢
                clear K6 C6 G6 Z6 B6 O6 k6 kf6 lk6
                go_wp2_with fail
                go_roundw
                case rel => exact ⟨i, k + 1, S ++ [newE ⟨0, r1, r2, r3, r4, r5, r6, r7, r8⟩], _, by omega, by omega, by go_num, by go_num, NX.out, by rw [List.length_append]; simp; omega, K7, O7.out, G7, Z7, B7⟩
                case measure => simp [intOf]; omega
              · have TN : T = none := by
                  rw [← HT1.out]
                  exact apS_none (Aa := Aa) (nw := nw) (A := A) (n := n) (S := S) (i := i) (k := k) hlt (fun h => absurd h hin) (by rw [HAR.out]; exact h0)
                have hq0 : (r0 == 0) = false := by simpa using h0
                have k1 := F1.out TN
                obtain ⟨k2, k3, k4⟩ := HZ.out (by rw [k1]; decide)
                subst k1 k2 k3 k4
                clear F1 F2 F3 HZ
                go_wp2_with fail
                go_quiet (fail)
                obtain ⟨nqa, hnqa⟩ : ∃ x, nq = x := ⟨_, rfl⟩
                rw [hnqa]
                clear nq hnqa
                go_upto_region 21 with fail
                go_quiet (fail)
                have K1 := (q1.drewN nqa).drewN nq
                have C1 := (q4.drewN nqa).drewN nq
                have G1 := (q5.drewN nqa).drewN nq
                have Z1 := (q6.drewN nqa).drewN nq
                have B1 := below_drewN (below_drewN q7 nqa) nq
                have O2 : Hid (OwnE ((wr.drewN nqa).drewN nq) (K + 1) ov S) := O1.out
                clear q1 q4 q5 q6 q7 O1 y1 lM
                generalize (wr.drewN nqa).drewN nq = wd at K1 C1 G1 Z1 B1 O2 ⊢
                obtain ⟨oa, oc, rfl⟩ := O2.out.form
                have y0 := C1.cell 0 _ rfl
                have y1 := C1.cell 1 _ rfl
                have y2 := C1.cell 2 _ rfl
                have y3 := C1.cell 3 _ rfl
                have y4 := C1.cell 4 _ rfl
                have y5 := C1.cell 5 _ rfl
                have y6 := C1.cell 6 _ rfl
                have y7 := C1.cell 7 _ rfl
                have y8 := C1.cell 8 _ rfl
                have lM := C1.lt
                have d0 := Z1.cell 0 _ rfl
                have f0 := Z1.froz 0
                have d1 := Z1.cell 1 _ rfl
                have f1 := Z1.froz 1
                have d2 := Z1.cell 2 _ rfl
                have f2 := Z1.froz 2
                have lr := Z1.lt
                go_wp2_with fail
                have RB := blk_three (x0 := .int .i64 0) (x1 := .int .i64 0) (x2 := .slice none 0 0) Z1
                have LB := below_three (x0 := .int .i64 0) (x1 := .int .i64 0) (x2 := .slice none 0 0) B1 (show H ≤ H + 1 + 1 by omega)
                generalize ((wd.setCell ⟨H + 1 + 1, 0, none⟩ (.int .i64 0)).setCell ⟨H + 1 + 1, 1, none⟩ (.int .i64 0)).setCell ⟨H + 1 + 1, 2, none⟩ (.slice none 0 0) = W9 at RB LB ⊢
                have h0 := RB.cell 0 _ rfl
                have h1 := RB.cell 1 _ rfl
                have h2 := RB.cell 2 _ rfl
                refine bodyPost_ret (v := .tuple #[snV (0) (0) (.slice none 0 0), .int .i64 15]) (by simp [results, Tryz.results39, go_sem, h0, h1, h2]) rfl ⟨_, rfl, OwnE.nil' _ _, by rw [HH.out]; exact LB⟩
        · obtain rfl : k = n := by omega
          have NX : Hid (T = some (S ++ (preE Aa nw).drop i)) := by
            have e := T1
            rw [apS_end] at e
            exact e.symm
          have HDL : Hid (((preE Aa nw).drop i).length = nw - i) := by
            show _ = _
            rw [List.length_drop, preE_len]
          have O1 : Hid (OwnE wr (K + 1) ov S) := q2
          have RW : RdE wr (.slice aw nw cw) nw Aa := HRW.out _ q5
          clear T1 q2
          obtain ⟨oa, oc, rfl⟩ := O1.out.form
          have k2 := q1.cell 2 _ rfl
          have kf2 := q1.froz 2
          have lk := q1.lt
          obtain ⟨aw', cw', ew, hcw, hcm, hcell⟩ := RW
          injection ew with ew1 _ ew2
          subst ew1 ew2
          rcases aw with _ | ad
          · have hnw0 : nw = 0 := by
              rcases hcell with h | ⟨b, o, h, _⟩
              · exact h
              · cases h
            have hi0 : i = 0 := by omega
            subst hnw0 hi0
            clear hcell
            go_upto_region 30 with fail
            go_region_law (first | (refine appE0_step rfl (some 142) rfl _ _ rfl (K + 1) _ S rfl (by exact OwnE.below (w := wr) O1.out ((Below.refl _ wr).drew)) cw rfl ?_; (try simp only [Act.put, List.setIfInBounds_toArray, List.set_cons_zero, List.set_cons_succ])))
            all_goals (obtain ⟨n6, hn6⟩ : ∃ n6, S.length = n6 := ⟨_, rfl⟩
                       have HN6 : Hid ((S ++ (preE Aa 0).drop 0).length = n6) := by
                         show _ = _
                         rw [← hn6]; simp [preE]
                       have K7 := (q1.set 2 (Value.slice oa S.length oc) (by simp)).drew
                       have Z7 := (q4.other (p := ⟨K, 2, none⟩) (fun h' => by have h2 : K = H + 1 + 1 := h'; omega) (Value.slice oa S.length oc)).drew
                       have B7 : Below H w ((wr.setCell ⟨K, 2, none⟩ (Value.slice oa S.length oc)).drew) := (q5.setCell (by show H ≤ K; omega) _).drew
                       have O7 : Hid (OwnE ((wr.setCell ⟨K, 2, none⟩ (Value.slice oa S.length oc)).drew) (K + 1) (Value.slice oa S.length oc) (S ++ (preE Aa 0).drop 0)) := by
                         have e : S ++ (preE Aa 0).drop 0 = S := by simp [preE]
                         show OwnE (wr.setCell ⟨K, 2, none⟩ (Value.slice oa S.length oc)) (K + 1) _ _
                         rw [e]; exact O1.out.set (by omega)
                       generalize (wr.setCell ⟨K, 2, none⟩ (Value.slice oa S.length oc)).drew = w7 at K7 Z7 B7 O7 ⊢
                       rw [hn6] at K7 O7 ⊢
                       clear hn6 q1 q4 q5 O1 k2 kf2 lk lg c3
                       by_cases hb : 64 < n6
                       · have k1 := F2.out _ NX.out (by rw [HN6.out]; exact hb)
                         obtain ⟨k2', k3, k4⟩ := HZ.out (by rw [k1]; decide)
                         subst k1 k2' k3 k4
                         clear F1 F2 F3 HZ
                         have k7 := K7.cell 2 _ rfl
                         have lk7 := K7.lt
                         have d0 := Z7.cell 0 _ rfl
                         have f0 := Z7.froz 0
                         have d1 := Z7.cell 1 _ rfl
                         have f1 := Z7.froz 1
                         have d2 := Z7.cell 2 _ rfl
                         have f2 := Z7.froz 2
                         have lr := Z7.lt
                         go_wp2_with fail
                         have RB := blk_three (x0 := .int .i64 0) (x1 := .int .i64 0) (x2 := .slice none 0 0) Z7
                         have LB := below_three (x0 := .int .i64 0) (x1 := .int .i64 0) (x2 := .slice none 0 0) B7 (show H ≤ H + 1 + 1 by omega)
                         generalize ((w7.setCell ⟨H + 1 + 1, 0, none⟩ (.int .i64 0)).setCell ⟨H + 1 + 1, 1, none⟩ (.int .i64 0)).setCell ⟨H + 1 + 1, 2, none⟩ (.slice none 0 0) = W9 at RB LB ⊢
                         have h0 := RB.cell 0 _ rfl
                         have h1 := RB.cell 1 _ rfl
                         have h2 := RB.cell 2 _ rfl
                         refine bodyPost_ret (v := .tuple #[snV (0) (0) (.slice none 0 0), .int .i64 4]) (by simp [results, Tryz.results39, go_sem, h0, h1, h2]) rfl ⟨_, rfl, OwnE.nil' _ _, by rw [HH.out]; exact LB⟩
                       · obtain ⟨k1, k3, k4, k5⟩ := F3.out _ NX.out (by rw [HN6.out]; exact hb)
                         have K5 : Hid (TL = _) := k5
                         subst k1
                         clear F1 F2 F3 HZ k5
                         subst k3 k4
                         have k70 := K7.cell 0 _ rfl
                         have k71 := K7.cell 1 _ rfl
                         have k72 := K7.cell 2 _ rfl
                         have lk7 := K7.lt
                         have d0 := Z7.cell 0 _ rfl
                         have f0 := Z7.froz 0
                         have d1 := Z7.cell 1 _ rfl
                         have f1 := Z7.froz 1
                         have d2 := Z7.cell 2 _ rfl
                         have f2 := Z7.froz 2
                         have lr := Z7.lt
                         go_wp2_with fail
                         have RB := blk_three (x0 := .int .i64 RT) (x1 := .int .i64 RM) (x2 := .slice oa n6 oc) Z7
                         have LB := below_three (x0 := .int .i64 RT) (x1 := .int .i64 RM) (x2 := .slice oa n6 oc) B7 (show H ≤ H + 1 + 1 by omega)
                         have OB := ((O7.out.set (b := H + 1 + 1) (o := 0) (x := .int .i64 RT) (by omega)).set (b := H + 1 + 1) (o := 1) (x := .int .i64 RM) (by omega)).set (b := H + 1 + 1) (o := 2) (x := .slice oa n6 oc) (by omega)
                         generalize ((w7.setCell ⟨H + 1 + 1, 0, none⟩ (.int .i64 RT)).setCell ⟨H + 1 + 1, 1, none⟩ (.int .i64 RM)).setCell ⟨H + 1 + 1, 2, none⟩ (.slice oa n6 oc) = W9 at RB LB OB ⊢
                         have h0 := RB.cell 0 _ rfl
                         have h1 := RB.cell 1 _ rfl
                         have h2 := RB.cell 2 _ rfl
                         refine bodyPost_ret (v := .tuple #[snV (RT) (RM) (.slice oa n6 oc), .int .i64 0]) (by simp [results, Tryz.results39, go_sem, h0, h1, h2]) rfl ⟨_, rfl, by rw [K5.out]; exact OB.mono (by rw [HH.out]; omega), by rw [HH.out]; exact LB⟩)
          · obtain ⟨AD, hAD⟩ : ∃ AD : Addr, (if cw = i then some ad else some (ad.add (i * 9))) = some AD := by by_cases e : cw = i <;> simp [e]
            have HD : Hid (∀ j u, (ents ((preE Aa nw).drop i))[j]? = some u → wr.drew.cell? (AD.add j) = some u) := fun j u hu => by
              have hj : j < (nw - i) * 9 := by have := (List.getElem?_eq_some_iff.1 hu).1; rwa [ents_len, HDL.out] at this
              rcases hcell with h | ⟨b, o, h, hc⟩
              · omega
              · injection h with h; subst h
                rw [if_neg (by omega)] at hAD
                injection hAD with hAD; subst hAD
                rw [Addr.add_lit, Addr.add_lit, Nat.add_assoc]
                exact ents_rd (w := wr) hc _ u (ents_drop _ _ _ (by rw [preE_len]; omega) _ hu)
            have hiw : i ≤ cw := by omega
            clear hcell
            go_upto_region 30 with fail
            go_region_law (first | (refine appE_step rfl (some 142) rfl _ _ rfl (K + 1) _ S rfl (by exact OwnE.below (w := wr) O1.out ((Below.refl _ wr).drew)) AD (nw - i) (cw - i) ((preE Aa nw).drop i) rfl HDL.out (by exact HD.out) (by rw [HDL.out]; omega) (by first | omega | (simp; omega)) ?_; intro u6 w6 own6 gr6; obtain ⟨ao6, cap6, e6⟩ := own6.form; obtain ⟨n6, hn6⟩ : ∃ n6, (S ++ (preE Aa nw).drop i).length = n6 := ⟨_, rfl⟩; rw [hn6] at e6; have HN6 : Hid ((S ++ (preE Aa nw).drop i).length = n6) := hn6; clear hn6; subst e6; (try simp only [Act.put, List.setIfInBounds_toArray, List.set_cons_zero, List.set_cons_succ]); have K6 := (q1.drew).below gr6.below (by omega); have Z6 := (q4.drew).below gr6.below (by omega); have B6 : Below H w w6 := (q5.drew).trans (gr6.below.mono (by omega)); have O6 : Hid (OwnE w6 (K + 1) (Value.slice ao6 n6 cap6) (S ++ (preE Aa nw).drop i)) := own6; clear own6 gr6; have k6 := K6.cell 2 _ rfl; have kf6 := K6.froz 2; have lk6 := K6.lt))
            all_goals (have K7 : Blk (w6.setCell ⟨K, 2, none⟩ (Value.slice ao6 n6 cap6)) K [.int .i64 g0, .int .i64 g1, .slice ao6 n6 cap6] := K6.set 2 _ (by simp)
                       have Z7 := Z6.other (p := ⟨K, 2, none⟩) (fun h' => by have h2 : K = H + 1 + 1 := h'; omega) (Value.slice ao6 n6 cap6)
                       have B7 : Below H w (w6.setCell ⟨K, 2, none⟩ (Value.slice ao6 n6 cap6)) := B6.setCell (by show H ≤ K; omega) _
                       have O7 : Hid (OwnE (w6.setCell ⟨K, 2, none⟩ (Value.slice ao6 n6 cap6)) (K + 1) (Value.slice ao6 n6 cap6) (S ++ (preE Aa nw).drop i)) := O6.out.set (by omega)
                       generalize w6.setCell ⟨K, 2, none⟩ (Value.slice ao6 n6 cap6) = w7 at K7 Z7 B7 O7 ⊢
                       clear K6 Z6 B6 O6 k6 kf6 lk6 k2 kf2 lk lg c3
                       by_cases hb : 64 < n6
                       · have k1 := F2.out _ NX.out (by rw [HN6.out]; exact hb)
                         obtain ⟨k2', k3, k4⟩ := HZ.out (by rw [k1]; decide)
                         subst k1 k2' k3 k4
                         clear F1 F2 F3 HZ
                         have k7 := K7.cell 2 _ rfl
                         have lk7 := K7.lt
                         have d0 := Z7.cell 0 _ rfl
                         have f0 := Z7.froz 0
                         have d1 := Z7.cell 1 _ rfl
                         have f1 := Z7.froz 1
                         have d2 := Z7.cell 2 _ rfl
                         have f2 := Z7.froz 2
                         have lr := Z7.lt
                         go_wp2_with fail
                         have RB := blk_three (x0 := .int .i64 0) (x1 := .int .i64 0) (x2 := .slice none 0 0) Z7
                         have LB := below_three (x0 := .int .i64 0) (x1 := .int .i64 0) (x2 := .slice none 0 0) B7 (show H ≤ H + 1 + 1 by omega)
                         generalize ((w7.setCell ⟨H + 1 + 1, 0, none⟩ (.int .i64 0)).setCell ⟨H + 1 + 1, 1, none⟩ (.int .i64 0)).setCell ⟨H + 1 + 1, 2, none⟩ (.slice none 0 0) = W9 at RB LB ⊢
                         have h0 := RB.cell 0 _ rfl
                         have h1 := RB.cell 1 _ rfl
                         have h2 := RB.cell 2 _ rfl
                         refine bodyPost_ret (v := .tuple #[snV (0) (0) (.slice none 0 0), .int .i64 4]) (by simp [results, Tryz.results39, go_sem, h0, h1, h2]) rfl ⟨_, rfl, OwnE.nil' _ _, by rw [HH.out]; exact LB⟩
                       · obtain ⟨k1, k3, k4, k5⟩ := F3.out _ NX.out (by rw [HN6.out]; exact hb)
                         have K5 : Hid (TL = _) := k5
                         subst k1
                         clear F1 F2 F3 HZ k5
                         subst k3 k4
                         have k70 := K7.cell 0 _ rfl
                         have k71 := K7.cell 1 _ rfl
                         have k72 := K7.cell 2 _ rfl
                         have lk7 := K7.lt
                         have d0 := Z7.cell 0 _ rfl
                         have f0 := Z7.froz 0
                         have d1 := Z7.cell 1 _ rfl
                         have f1 := Z7.froz 1
                         have d2 := Z7.cell 2 _ rfl
                         have f2 := Z7.froz 2
                         have lr := Z7.lt
                         go_wp2_with fail
                         have RB := blk_three (x0 := .int .i64 RT) (x1 := .int .i64 RM) (x2 := .slice ao6 n6 cap6) Z7
                         have LB := below_three (x0 := .int .i64 RT) (x1 := .int .i64 RM) (x2 := .slice ao6 n6 cap6) B7 (show H ≤ H + 1 + 1 by omega)
                         have OB := ((O7.out.set (b := H + 1 + 1) (o := 0) (x := .int .i64 RT) (by omega)).set (b := H + 1 + 1) (o := 1) (x := .int .i64 RM) (by omega)).set (b := H + 1 + 1) (o := 2) (x := .slice ao6 n6 cap6) (by omega)
                         generalize ((w7.setCell ⟨H + 1 + 1, 0, none⟩ (.int .i64 RT)).setCell ⟨H + 1 + 1, 1, none⟩ (.int .i64 RM)).setCell ⟨H + 1 + 1, 2, none⟩ (.slice ao6 n6 cap6) = W9 at RB LB OB ⊢
                         have h0 := RB.cell 0 _ rfl
                         have h1 := RB.cell 1 _ rfl
                         have h2 := RB.cell 2 _ rfl
                         refine bodyPost_ret (v := .tuple #[snV (RT) (RM) (.slice ao6 n6 cap6), .int .i64 0]) (by simp [results, Tryz.results39, go_sem, h0, h1, h2]) rfl ⟨_, rfl, by rw [K5.out]; exact OB.mono (by rw [HH.out]; omega), by rw [HH.out]; exact LB⟩)
  · have k1 := H1.out hz
    obtain ⟨k2, k3, k4⟩ := HZ.out (by rw [k1]; exact hz)
    subst k1 k2 k3 k4
    clear H1 H2 H3 HF WY WN HZ HBD HC HNA
    have hq : (E != 0) = true := by simp [hz]
    have d0 := S1'.cell 0 _ rfl
    have f0 := S1'.froz 0
    have d1 := S1'.cell 1 _ rfl
    have f1 := S1'.froz 1
    have d2 := S1'.cell 2 _ rfl
    have f2 := S1'.froz 2
    have lr := S1'.lt
    go_wp2_with fail
    have RB := blk_three (x0 := .int .i64 0) (x1 := .int .i64 0) (x2 := .slice none 0 0) S1'
    have LB := below_three (x0 := .int .i64 0) (x1 := .int .i64 0) (x2 := .slice none 0 0) B1 (show H ≤ H + 1 + 1 by omega)
    generalize ((w1.setCell ⟨H + 1 + 1, 0, none⟩ (.int .i64 0)).setCell ⟨H + 1 + 1, 1, none⟩ (.int .i64 0)).setCell ⟨H + 1 + 1, 2, none⟩ (.slice none 0 0) = W9 at RB LB ⊢
    have h0 := RB.cell 0 _ rfl
    have h1 := RB.cell 1 _ rfl
    have h2 := RB.cell 2 _ rfl
    refine bodyPost_ret (v := .tuple #[snV (0) (0) (.slice none 0 0), .int .i64 E]) (by simp [results, Tryz.results39, go_sem, h0, h1, h2]) rfl ⟨_, rfl, OwnE.nil' _ _, by rw [HH.out]; exact LB⟩
end Go.Proofs.YtlpdhglibgnkoaaGreat
