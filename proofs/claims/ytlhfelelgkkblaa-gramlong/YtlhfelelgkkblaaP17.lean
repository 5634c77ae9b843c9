/-
  Texts Gm4, Gm5, Gm6 in one.
-/
import Derived.Test.YtlhfelelgkkblaaP16
namespace Go.Proofs.Ytlhfelelgkkblaa
open Go.RowKit
set_option linter.unusedVariables false
set_option maxRecDepth 8000

set_option maxHeartbeats 4000000 in
theorem gm_body (w : World) (g : Gm) (ok : g.ok) (v : Value) (n : Nat) (A : Nat → Rc) (hA : ∀ i, i < n → (A i).ok) (hv : RdR w v n A) :
    Calls Try.prog 21 #[gmV g v] w fun e w' => ∃ u, e = .returned (.tuple #[u, .int .i64 (gmE g A n)]) ∧ Own w' w.heap.size u (bodB g A n) ∧ Below w.heap.size w w' := by
  have HA : Hid (∀ i, i < n → (A i).ok) := hA
  have HR : Hid (RdR w v n A) := hv
  obtain ⟨ao, cap, rfl, hc, hm, _⟩ := hv
  have HC : Hid (∀ w', Calls Try.prog 42 #[gmV g (.slice ao n cap)] w' fun e w'' => e = .returned (.int .i64 (hedE g n)) ∧ Below w'.heap.size w' w'') := fun w' => gm_check w' g ok ao n cap hc hm
  have HH : Hid (hedE g n = 0 → ∀ w', Calls Try.prog 43 #[gmV g (.slice ao n cap)] w' fun e w'' => ∃ v, e = .returned v ∧ Own w'' w'.heap.size v (hedB g n) ∧ Below w'.heap.size w' w'') := fun h w' => gm_heads w' g ao n cap hc hm h
  have NO : Hid (hedE g n ≠ 0 → gmE g A n = hedE g n ∧ bodB g A n = []) := fun h => by
    have e : gmE g A n = hedE g n := by unfold gmE; rw [if_neg h]
    exact ⟨e, by unfold bodB; rw [if_neg (by rw [e]; exact h)]⟩
  have YE : Hid (hedE g n = 0 → chainR (-1) (pre A n) → gmE g A n = 0 ∧ bodB g A n = hedB g n ++ encR (-1) (pre A n)) := fun h hc => by
    have e : gmE g A n = 0 := by unfold gmE; rw [if_pos h]; exact fir_chain _ _ hc
    exact ⟨e, by unfold bodB; rw [if_pos e]; rfl⟩
  have ER : Hid (∀ k, hedE g n = 0 → k < n → chainR (-1) (pre A k) → wrE (A k) (lastR (-1) (pre A k)) ≠ 0 → gmE g A n = wrE (A k) (lastR (-1) (pre A k)) ∧ bodB g A n = []) := fun k h hk hc he => by
    have e : gmE g A n = wrE (A k) (lastR (-1) (pre A k)) := by unfold gmE; rw [if_pos h]; exact fir_pre hk hc he
    exact ⟨e, by unfold bodB; rw [if_neg (by rw [e]; exact he)]⟩
  have HL : Hid (hedE g n = 0 → (hedB g n).length ≤ 42 ∧ n ≤ 128) := fun h => ⟨hedB_len h, (hed_ok h).2.2.2.2.2.2⟩
  obtain ⟨hb, ehb⟩ : ∃ x, hedB g n = x := ⟨_, rfl⟩
  obtain ⟨he, ehe⟩ : ∃ x, hedE g n = x := ⟨_, rfl⟩
  obtain ⟨ge, ege⟩ : ∃ x, gmE g A n = x := ⟨_, rfl⟩
  obtain ⟨gb, egb⟩ : ∃ x, bodB g A n = x := ⟨_, rfl⟩
  rw [ehb, ehe] at HH YE HL
  rw [ehe] at HC NO ER
  rw [ege, egb] at NO YE ER
  rw [ege, egb]
  clear ehb ehe ege egb hA
  obtain ⟨t, m, b⟩ := g
  go_enter Try.func21, Try.ntmps21
  go_wp2_with fail
  generalize hW : w.alloc (.cells #[.int .i64 t, .int .i64 m, .int .i64 b, .slice ao n cap] 24) = W
  obtain ⟨A0, b0, _⟩ := boxed hW
  clear hW
  refine (HC.out _).mono ?_; rintro e w1 ⟨rfl, g1⟩
  have A1 := A0.below g1 A0.lt
  have b1 := bup b0 (Nat.le_refl _) g1
  have x0 := A1.cell 0 _ rfl
  have x1 := A1.cell 1 _ rfl
  have x2 := A1.cell 2 _ rfl
  have x3 := A1.cell 3 _ rfl
  have l1 := A1.lt
  clear A0 b0 g1
  by_cases hz : he = 0
  · subst hz
    go_wp2_with fail
    refine (HH.out (by trivial) _).mono ?_; rintro e w2 ⟨u2, rfl, own2, g2⟩
    have A2 := A1.below g2 A1.lt
    have b2 := bup b1 (Nat.le_refl _) g2
    obtain ⟨hl1, hl2⟩ := HL.out (by trivial)
    have O2 : Hid (Own w2 w.heap.size u2 hb) := own2.mono b1.size
    clear x0 x1 x2 x3 l1 A1 b1 g2 own2 NO HC HH HL
    have x3 := A2.cell 3 _ rfl
    have l2 := A2.lt
    go_wp2_with fail
    clear x3 l2
    have B2 : Hid (Below w.heap.size w w2) := b2
    clear b2 A2
    go_loopw [21, 5, 6] (fun i bv lv wr => ∃ k : Nat, k ≤ n ∧ i = .int .i64 k ∧ lv = .int .i64 (lastR (-1) (pre A k)) ∧ chainR (-1) (pre A k) ∧ Own wr w.heap.size bv (hb ++ encR (-1) (pre A k)) ∧ Below w.heap.size w wr) (fun i _ _ _ => n - (intOf i).toNat)
    case atStart => exact ⟨0, by omega, rfl, rfl, trivial, by rw [pre_zero]; simpa [encR] using O2.out, B2.out⟩
    case round =>
      obtain ⟨k, hk, rfl, rfl, ch, q1, q4⟩ := hrel
      have CO := chainR_ok _ _ ch
      have LB := lastR_bd _ _ ch (by omega) (by omega)
      rw [pre_len] at CO
      have LE : (hb ++ encR (-1) (pre A k)).length ≤ 8746 := by rw [List.length_append]; omega
      have CH : Hid (chainR (-1) (pre A k)) := ch
      have Q1 : Hid (Own wr w.heap.size u5 (hb ++ encR (-1) (pre A k))) := q1
      have s1 := q4.size
      clear q1 ch CO
      by_cases hlt : k < n
      · obtain ⟨ao', cap', e, _, _, h3⟩ := HR.out
        injection e with e1 e2 e3
        subst e1 e3
        obtain ⟨b', o, rfl, hcell⟩ := h3.resolve_left (by omega)
        have okk := HA.out k hlt
        have ERk : Hid (wrE (A k) (lastR (-1) (pre A k)) ≠ 0 → ge = wrE (A k) (lastR (-1) (pre A k)) ∧ gb = []) := ER.out k (by trivial) hlt CH.out
        have YEk : Hid (wrE (A k) (lastR (-1) (pre A k)) = 0 → chainR (-1) (pre A (k + 1)) ∧ encR (-1) (pre A (k + 1)) = encR (-1) (pre A k) ++ wrB (A k) (lastR (-1) (pre A k)) ∧ lastR (-1) (pre A (k + 1)) = (A k).i ∧ wrB (A k) (lastR (-1) (pre A k)) ≠ []) := fun h =>
          ⟨by rw [pre_succ]; exact chainR_snoc _ _ _ CH.out okk h, by rw [pre_succ, encR_snoc], by rw [pre_succ, lastR_snoc], by unfold wrB; rw [if_pos h]; simp⟩
        obtain ⟨r, hr⟩ : ∃ r, A k = r := ⟨_, rfl⟩
        have cc : ∀ j x, (recC r)[j]? = some x → wr.cell? ⟨b', o + k * 9 + j, none⟩ = some x := fun j x hx => by
          have c := hcell k hlt j x (by rw [hr]; exact hx)
          exact (q4.cell (p := ⟨b', o + k * 9 + j, none⟩) (World.block_lt_of_cell? w _ c)).trans c
        rw [hr] at okk ERk YEk
        have x0 := cc 0 _ rfl
        have x1 := cc 1 _ rfl
        have x2 := cc 2 _ rfl
        have x3 := cc 3 _ rfl
        have x4 := cc 4 _ rfl
        have x5 := cc 5 _ rfl
        have x6 := cc 6 _ rfl
        have x7 := cc 7 _ rfl
        have x8 := cc 8 _ rfl
        have bl : b' < wr.heap.size := World.block_lt_of_cell? wr _ x0
        have OKR : Hid r.ok := okk
        simp only [Nat.add_zero] at x0
        clear cc hcell hr okk ER YE
        obtain ⟨lst, hlst⟩ : ∃ x, lastR (-1) (pre A k) = x := ⟨_, rfl⟩
        rw [hlst] at LB ERk YEk
        rw [hlst]
        clear hlst
        obtain ⟨lb0, lb1⟩ := LB
        obtain ⟨er, her⟩ : ∃ x, wrE r lst = x := ⟨_, rfl⟩
        obtain ⟨lw, hlw⟩ : ∃ x, wrB r lst = x := ⟨_, rfl⟩
        have HER : Hid (wrE r lst = er ∧ wrB r lst = lw) := ⟨her, hlw⟩
        have LW : lw.length ≤ 68 := by rw [← hlw]; exact wr_len OKR.out
        rw [her] at ERk YEk
        rw [hlw] at YEk
        clear her hlw
        go_wp2_with fail
        generalize hV : wr.alloc (.cells (recA r) 50) = W2
        obtain ⟨T2, bb, _⟩ := boxed hV
        have P1 : Hid (Own W2 w.heap.size u5 (hb ++ encR (-1) (pre A k))) := Own.below Q1.out bb
        have B3 := bup q4 (Nat.le_refl _) bb
        have TA : some wr.heap.size ≠ u5.ownBlock := Blk.apart Q1.out (Nat.le_refl _)
        obtain ⟨MT, hMT⟩ : ∃ M, wr.heap.size = M := ⟨_, rfl⟩
        rw [hMT] at T2 TA
        rw [hMT]
        clear hV bb hMT Q1 q4 x0 x1 x2 x3 x4 x5 x6 x7 x8 bl
        refine (rec_write _ r lst OKR.out (by unfold S64; omega)).mono ?_; rw [HER.out.1, HER.out.2]; rintro e w3 ⟨u8', rfl, own3, b3⟩
        have S1 : Hid (Own w3 w.heap.size u5 (hb ++ encR (-1) (pre A k))) := Own.below P1.out b3
        have O8 : Hid (Own w3 W2.heap.size u8' lw) := own3
        have T3 := T2.below b3 T2.lt
        have B4 := bup B3 (Nat.le_refl _) b3
        have s3 := B4.size
        clear P1 own3 b3 T2 B3
        by_cases hz : er = 0
        · obtain ⟨y1, y2, y3, y4⟩ := YEk.out hz
          have Y : Hid (chainR (-1) (pre A (k + 1)) ∧ encR (-1) (pre A (k + 1)) = encR (-1) (pre A k) ++ lw ∧ lastR (-1) (pre A (k + 1)) = r.i) := ⟨y1, y2, y3⟩
          subst hz
          clear ERk YEk y1 y2 y3
          go_wp2_with (at_builtin; refine grow_wp rfl _ _ rfl w.heap.size _ (hb ++ encR (-1) (pre A k)) rfl (by exact S1.out) _ lw rfl (by exact O8.out.rd) y4 (by omega) (by omega) ?_; intro v5 w5 own5 gr5; have T5 := (Blk.grow T3 TA gr5).1; have B5 := B4.trans gr5.below; have z1 := T5.cell 1 _ rfl; have O5 : Hid (Own w5 w.heap.size v5 (hb ++ encR (-1) (pre A k) ++ lw)) := own5; clear own5 S1 O8 T3 B4 gr5 TA)
          go_roundw
          case rel => exact ⟨k + 1, by omega, by go_num, by rw [Y.out.2.2], Y.out.1, by rw [Y.out.2.1, ← List.append_assoc]; exact O5.out, B5⟩
          case measure => simp [intOf]; omega
        · obtain ⟨y1, y2⟩ := ERk.out hz
          have heq : (er == 0) = false := by simp [hz]
          subst y1 y2
          clear ERk YEk
          go_wp2_with fail
          go_ret2
          exact ⟨_, rfl, Own.nil _ _, B4⟩
      · obtain rfl : k = n := by omega
        obtain ⟨y1, y2⟩ := YE.out (by trivial) CH.out
        subst y1
        have Y2 : Hid (gb = hb ++ encR (-1) (pre A k)) := y2
        clear y2 ER YE
        go_wp2_with fail
        go_ret2
        exact ⟨_, rfl, by rw [Y2.out]; exact Q1.out, q4⟩
  · obtain ⟨y1, y2⟩ := NO.out hz
    have heq : (he == 0) = false := by simp [hz]
    subst y1 y2
    clear NO YE ER HL HH HC
    go_wp2_with fail
    go_ret2
    exact ⟨_, rfl, Own.nil _ _, b1⟩
end Go.Proofs.Ytlhfelelgkkblaa

namespace Go.Proofs.Ytlhfelelgkkblaa
open Go.RowKit
set_option linter.unusedVariables false
set_option maxRecDepth 8000

theorem gm_checks (w : World) (g : Gm) (ok : g.ok) (v : Value) (n : Nat) (A : Nat → Rc) (hA : ∀ i, i < n → (A i).ok) (hv : RdR w v n A) :
    Calls Try.prog 12 #[gmV g v] w fun e w' => e = .returned (.int .i64 (gmE g A n)) ∧ Below w.heap.size w w' := by
  have HB : Hid (∀ w', Below w.heap.size w w' → Calls Try.prog 21 #[gmV g v] w' fun e w'' => ∃ u, e = .returned (.tuple #[u, .int .i64 (gmE g A n)]) ∧ Own w'' w'.heap.size u (bodB g A n) ∧ Below w'.heap.size w' w'') := fun w' h => gm_body w' g ok v n A hA (hv.below h)
  obtain ⟨ge, ege⟩ : ∃ x, gmE g A n = x := ⟨_, rfl⟩
  rw [ege] at HB
  rw [ege]
  clear ege hA ok
  obtain ⟨ao, cap, rfl, hc, hm, _⟩ := hv
  obtain ⟨t, m, b⟩ := g
  go_enter Try.func12, Try.ntmps12
  go_wp2_with fail
  generalize hW : w.alloc (.cells #[.int .i64 t, .int .i64 m, .int .i64 b, .slice ao n cap] 24) = W
  obtain ⟨A0, b0, _⟩ := boxed hW
  clear hW
  refine (HB.out _ b0).mono ?_; rintro e w1 ⟨u1, rfl, _, g1⟩
  have b1 := bup b0 (Nat.le_refl _) g1
  go_wp2_with fail
  go_ret
  exact ⟨rfl, b1⟩
set_option maxHeartbeats 1000000 in
theorem gm_write (w : World) (g : Gm) (ok : g.ok) (v : Value) (n : Nat) (A : Nat → Rc) (hA : ∀ i, i < n → (A i).ok) (hv : RdR w v n A) :
    Calls Try.prog 10 #[gmV g v] w fun e w' => ∃ u, e = .returned (.tuple #[u, .int .i64 (wrtE g A n)]) ∧ Own w' w.heap.size u (wrtB g A n) ∧ Below w.heap.size w w' := by
  have HB : Hid (∀ w', Below w.heap.size w w' → Calls Try.prog 21 #[gmV g v] w' fun e w'' => ∃ u, e = .returned (.tuple #[u, .int .i64 (gmE g A n)]) ∧ Own w'' w'.heap.size u (bodB g A n) ∧ Below w'.heap.size w' w'') := fun w' h => gm_body w' g ok v n A hA (hv.below h)
  have BO : Hid (Bytes (bodB g A n)) := (bodB_ok hA).1
  have BL := (bodB_ok (g := g) hA).2
  have NO : Hid (gmE g A n ≠ 0 → wrtE g A n = gmE g A n ∧ wrtB g A n = []) := fun h => by
    have e : wrtE g A n = gmE g A n := by unfold wrtE; rw [if_neg h]
    exact ⟨e, by unfold wrtB; rw [if_neg (by rw [e]; exact h)]⟩
  have LO : Hid (gmE g A n = 0 → 4096 < (bodB g A n).length + 4 → wrtE g A n = 8 ∧ wrtB g A n = []) := fun h h2 => by
    have eb : bodB g A n = gmB g A n := by unfold bodB; rw [if_pos h]
    rw [eb] at h2
    have e : wrtE g A n = 8 := by unfold wrtE; rw [if_pos h, if_pos h2]
    exact ⟨e, by unfold wrtB; rw [if_neg (by rw [e]; omega)]⟩
  have YE : Hid (gmE g A n = 0 → ¬ 4096 < (bodB g A n).length + 4 → wrtE g A n = 0 ∧ wrtB g A n = bodB g A n ++ four (sum (bodB g A n))) := fun h h2 => by
    have eb : bodB g A n = gmB g A n := by unfold bodB; rw [if_pos h]
    rw [eb] at h2 ⊢
    have e : wrtE g A n = 0 := by unfold wrtE; rw [if_pos h, if_neg h2]
    exact ⟨e, by unfold wrtB; rw [if_pos e]; rfl⟩
  obtain ⟨ge, ege⟩ : ∃ x, gmE g A n = x := ⟨_, rfl⟩
  obtain ⟨bd, ebd⟩ : ∃ x, bodB g A n = x := ⟨_, rfl⟩
  obtain ⟨we, ewe⟩ : ∃ x, wrtE g A n = x := ⟨_, rfl⟩
  obtain ⟨wb, ewb⟩ : ∃ x, wrtB g A n = x := ⟨_, rfl⟩
  rw [ege, ebd] at HB
  rw [ebd] at BO BL
  rw [ege, ewe, ewb] at NO
  rw [ege, ebd, ewe, ewb] at LO YE
  rw [ewe, ewb]
  clear ege ebd ewe ewb hA ok
  obtain ⟨ao, cap, rfl, hc, hm, _⟩ := hv
  obtain ⟨t, m, b⟩ := g
  obtain ⟨N, hN⟩ : ∃ x, bd.length + 4 = x := ⟨_, rfl⟩
  have FL : Hid ((bd ++ four (sum bd)).length = N) := (by rw [List.length_append, four_len, hN] : (bd ++ four (sum bd)).length = N)
  have SM : Hid (bd.length + 4 ≤ 140737488355328) := (by omega : bd.length + 4 ≤ 140737488355328)
  have NB : N ≤ 8750 := by omega
  rw [hN] at LO YE
  clear hN BL
  go_enter Try.func10, Try.ntmps10
  go_wp2_with fail
  generalize hW : w.alloc (.cells #[.int .i64 t, .int .i64 m, .int .i64 b, .slice ao n cap] 24) = W
  obtain ⟨A0, b0, _⟩ := boxed hW
  clear hW
  refine (HB.out _ b0).mono ?_; rintro e w1 ⟨u1, rfl, own1, g1⟩
  have b1 := bup b0 (Nat.le_refl _) g1
  clear A0 b0 g1
  by_cases hz : ge = 0
  · subst hz
    have O1 : Hid (Own w1 W.heap.size u1 bd) := own1
    clear own1
    go_wp2_with fail
    refine (seal_any _ _ bd BO.out O1.out.rd SM.out).mono ?_; rintro e w2 ⟨u2, rfl, own2, g2⟩
    have b2 := bup b1 (Nat.le_refl _) g2
    have O2 : Hid (Own w2 w.heap.size u2 (bd ++ four (sum bd))) := own2.mono b1.size
    obtain ⟨ao2, cap2, e2, _⟩ := own2.rd
    rw [FL.out] at e2
    subst e2
    clear own2 b1 g2 O1 FL
    by_cases hg : 4096 < N
    · obtain ⟨y1, y2⟩ := LO.out (by trivial) hg
      subst y1 y2
      clear LO YE NO HB
      go_wp2_with fail
      go_ret2
      exact ⟨_, rfl, Own.nil _ _, b2⟩
    · obtain ⟨y1, y2⟩ := YE.out (by trivial) hg
      subst y1
      have Y2 : Hid (wb = bd ++ four (sum bd)) := y2
      clear LO YE NO HB y2
      go_wp2_with fail
      go_ret2
      exact ⟨_, rfl, by rw [Y2.out]; exact O2.out, b2⟩
  · obtain ⟨y1, y2⟩ := NO.out hz
    have heq : (ge == 0) = false := by simp [hz]
    subst y1 y2
    clear LO YE NO HB own1
    go_wp2_with fail
    go_ret2
    exact ⟨_, rfl, Own.nil _ _, b1⟩
end Go.Proofs.Ytlhfelelgkkblaa

namespace Go.Proofs.Ytlhfelelgkkblaa
open Go.RowKit
set_option linter.unusedVariables false
set_option maxRecDepth 8000

theorem dg_body_no (w : World) (g : Gm) (ok : g.ok) (v : Value) (n : Nat) (A : Nat → Rc) (hv : RdR w v n A) (h : hedE g n ≠ 0) :
    Calls Try.prog 22 #[gmV g v] w fun e w' => ∃ u, e = .returned (.tuple #[u, .int .i64 (gmE g A n)]) ∧ Own w' w.heap.size u (bodB g A n) ∧ Below w.heap.size w w' := by
  obtain ⟨ao, cap, rfl, hc, hm, _⟩ := hv
  have NO : Hid (hedE g n ≠ 0 → gmE g A n = hedE g n ∧ bodB g A n = []) := fun h => by
    have e : gmE g A n = hedE g n := by unfold gmE; rw [if_neg h]
    exact ⟨e, by unfold bodB; rw [if_neg (by rw [e]; exact h)]⟩
  obtain ⟨he, ehe⟩ : ∃ x, hedE g n = x := ⟨_, rfl⟩
  obtain ⟨ge, ege⟩ : ∃ x, gmE g A n = x := ⟨_, rfl⟩
  obtain ⟨gb, egb⟩ : ∃ x, bodB g A n = x := ⟨_, rfl⟩
  have T0 := ok.t
  have M0 := ok.m
  have B0 := ok.b
  obtain ⟨t, m, b⟩ := g
  simp only at T0 M0 B0
  have HE : Hid (he = if t < 0 ∨ 4294967295 < t ∨ (m < -2305843009213693952 ∨ 2305843009213693952 < m) ∨ b < -1 then 3 else if t ≤ b then 10 else if 128 < n then 8 else 0) := by
    have e : (timB m = false) ↔ (m < -2305843009213693952 ∨ 2305843009213693952 < m) := by
      unfold timB
      simp only [Bool.and_eq_false_iff, decide_eq_false_iff_not]
      omega
    show he = _
    rw [← ehe]
    unfold hedE
    simp only [e]
  rw [ehe, ege, egb] at NO
  rw [ege, egb]
  rw [ehe] at h
  unfold S64 at T0 M0 B0
  obtain ⟨t0, t1⟩ := T0
  obtain ⟨m0, m1⟩ := M0
  obtain ⟨b0, b1⟩ := B0
  clear ehe ege egb ok
  by_cases c1 : t < 0
  · have EV : he = 3 := HE.out.trans (if_pos (Or.inl c1))
    subst EV
    obtain ⟨y1, y2⟩ := NO.out (by decide)
    subst y1 y2
    clear NO HE
    go_enter Try.func22, Try.ntmps22
    go_wp2_with fail
    go_ret2
    exact ⟨_, rfl, Own.nil _ _, (Below.refl _ _).alloc (Nat.le_refl _) _⟩
  by_cases c2 : 4294967295 < t
  · have EV : he = 3 := HE.out.trans (if_pos (Or.inr (Or.inl c2)))
    subst EV
    obtain ⟨y1, y2⟩ := NO.out (by decide)
    subst y1 y2
    clear NO HE
    go_enter Try.func22, Try.ntmps22
    go_wp2_with fail
    go_ret2
    exact ⟨_, rfl, Own.nil _ _, (Below.refl _ _).alloc (Nat.le_refl _) _⟩
  by_cases c3 : m < -2305843009213693952
  · have EV : he = 3 := HE.out.trans (if_pos (Or.inr (Or.inr (Or.inl (Or.inl c3)))))
    subst EV
    obtain ⟨y1, y2⟩ := NO.out (by decide)
    subst y1 y2
    clear NO HE
    go_enter Try.func22, Try.ntmps22
    go_wp2_with fail
    go_ret2
    exact ⟨_, rfl, Own.nil _ _, (Below.refl _ _).alloc (Nat.le_refl _) _⟩
  by_cases c4 : 2305843009213693952 < m
  · have EV : he = 3 := HE.out.trans (if_pos (Or.inr (Or.inr (Or.inl (Or.inr c4)))))
    subst EV
    obtain ⟨y1, y2⟩ := NO.out (by decide)
    subst y1 y2
    clear NO HE
    go_enter Try.func22, Try.ntmps22
    go_wp2_with fail
    go_ret2
    exact ⟨_, rfl, Own.nil _ _, (Below.refl _ _).alloc (Nat.le_refl _) _⟩
  by_cases c5 : b < -1
  · have EV : he = 3 := HE.out.trans (if_pos (Or.inr (Or.inr (Or.inr c5))))
    subst EV
    obtain ⟨y1, y2⟩ := NO.out (by decide)
    subst y1 y2
    clear NO HE
    go_enter Try.func22, Try.ntmps22
    go_wp2_with fail
    go_ret2
    exact ⟨_, rfl, Own.nil _ _, (Below.refl _ _).alloc (Nat.le_refl _) _⟩
  have NN : ¬ (t < 0 ∨ 4294967295 < t ∨ (m < -2305843009213693952 ∨ 2305843009213693952 < m) ∨ b < -1) := by omega
  by_cases c6 : t ≤ b
  · have EV : he = 10 := HE.out.trans ((if_neg NN).trans (if_pos c6))
    subst EV
    obtain ⟨y1, y2⟩ := NO.out (by decide)
    subst y1 y2
    clear NO HE NN
    go_enter Try.func22, Try.ntmps22
    go_wp2_with fail
    go_ret2
    exact ⟨_, rfl, Own.nil _ _, (Below.refl _ _).alloc (Nat.le_refl _) _⟩
  by_cases c7 : 128 < n
  · have EV : he = 8 := HE.out.trans ((if_neg NN).trans ((if_neg c6).trans (if_pos c7)))
    subst EV
    obtain ⟨y1, y2⟩ := NO.out (by decide)
    subst y1 y2
    clear NO HE NN
    go_enter Try.func22, Try.ntmps22
    go_wp2_with fail
    go_ret2
    exact ⟨_, rfl, Own.nil _ _, (Below.refl _ _).alloc (Nat.le_refl _) _⟩
  exact absurd (HE.out.trans ((if_neg NN).trans ((if_neg c6).trans (if_neg c7)))) h

set_option maxHeartbeats 4000000 in
theorem dg_body_yes (w : World) (g : Gm) (v : Value) (n : Nat) (A : Nat → Rc) (hA : ∀ i, i < n → (A i).ok) (hv : RdR w v n A) (h : hedE g n = 0) :
    Calls Try.prog 22 #[gmV g v] w fun e w' => ∃ u, e = .returned (.tuple #[u, .int .i64 (gmE g A n)]) ∧ Own w' w.heap.size u (bodB g A n) ∧ Below w.heap.size w w' := by
  have HA : Hid (∀ i, i < n → (A i).ok) := hA
  have HR : Hid (RdR w v n A) := hv
  obtain ⟨ao, cap, rfl, hc, hm, _⟩ := hv
  have HO := hed_ok h
  have BK := bk_bd h
  have ZB := zig_u64 (x := g.m) (by unfold R64; omega)
  have HK : Hid (bkI g = if g.b = -1 then 0 else g.t - g.b) := rfl
  have YE : Hid (chainR (-1) (pre A n) → gmE g A n = 0 ∧ bodB g A n = hedK g n 4 ++ encR (-1) (pre A n)) := fun hc => by
    have e : gmE g A n = 0 := by unfold gmE; rw [if_pos h]; exact fir_chain _ _ hc
    exact ⟨e, by unfold bodB; rw [if_pos e, hedK_four]; rfl⟩
  have ER : Hid (∀ k, k < n → chainR (-1) (pre A k) → wrE (A k) (lastR (-1) (pre A k)) ≠ 0 → gmE g A n = wrE (A k) (lastR (-1) (pre A k)) ∧ bodB g A n = []) := fun k hk hc he => by
    have e : gmE g A n = wrE (A k) (lastR (-1) (pre A k)) := by unfold gmE; rw [if_pos h]; exact fir_pre hk hc he
    exact ⟨e, by unfold bodB; rw [if_neg (by rw [e]; exact he)]⟩
  have K0 : Hid (hedK g n 0 = [71, 1]) := (by unfold hedK; simp : hedK g n 0 = [71, 1])
  have K1 : Hid (hedK g n 1 = hedK g n 0 ++ put g.t) := (by unfold hedK; simp : hedK g n 1 = hedK g n 0 ++ put g.t)
  have K2 : Hid (hedK g n 2 = hedK g n 1 ++ put (zig g.m)) := (by unfold hedK; simp : hedK g n 2 = hedK g n 1 ++ put (zig g.m))
  have K3 : Hid (hedK g n 3 = hedK g n 2 ++ put (bkI g)) := (by unfold hedK; simp : hedK g n 3 = hedK g n 2 ++ put (bkI g))
  have K4 : Hid (hedK g n 4 = hedK g n 3 ++ put (n : Int)) := (by unfold hedK; simp : hedK g n 4 = hedK g n 3 ++ put (n : Int))
  have p1 := put_ten (x := g.t) (by omega) (by omega)
  have p2 := put_ten (x := zig g.m) (by omega) (by omega)
  have p3 := put_ten (x := bkI g) (by omega) (by omega)
  have p4 := put_ten (x := (n : Int)) (by omega) (by omega)
  have L0 : (hedK g n 0).length = 2 := by rw [K0.out]; rfl
  have L1 : (hedK g n 1).length ≤ 12 := by rw [K1.out, List.length_append]; omega
  have L2 : (hedK g n 2).length ≤ 22 := by rw [K2.out, List.length_append]; omega
  have L3 : (hedK g n 3).length ≤ 32 := by rw [K3.out, List.length_append]; omega
  have L4 : (hedK g n 4).length ≤ 42 := by rw [K4.out, List.length_append]; omega
  clear h hA
  obtain ⟨bk, hbk⟩ : ∃ x, bkI g = x := ⟨_, rfl⟩
  obtain ⟨zg, hzg⟩ : ∃ x, zig g.m = x := ⟨_, rfl⟩
  have HZ : Hid (zig g.m = zg) := hzg
  rw [hbk] at BK K3 p3 HK
  rw [hzg] at ZB K2 p2
  obtain ⟨f, hf⟩ : ∃ f : Nat → List Int, hedK g n = f := ⟨_, rfl⟩
  rw [hf] at K0 K1 K2 K3 K4 L0 L1 L2 L3 L4 YE
  obtain ⟨ge, ege⟩ : ∃ x, gmE g A n = x := ⟨_, rfl⟩
  obtain ⟨gb, egb⟩ : ∃ x, bodB g A n = x := ⟨_, rfl⟩
  rw [ege, egb] at YE ER
  rw [ege, egb]
  clear hbk hzg hf ege egb
  obtain ⟨t, m, b⟩ := g
  simp only at HO BK
  obtain ⟨o1, o2, o3, o4, o5, o6, o7⟩ := HO
  obtain ⟨k1, k2, _⟩ := BK
  obtain ⟨z1, z2⟩ := ZB
  go_enter Try.func22, Try.ntmps22
  go_wp2_with fail
  have O0 := Own.built (w.alloc (.cells (gmA ⟨t, m, b⟩ (.slice ao n cap)) 24)) (w.heap.size + 1) (by simp) [71, 1] 2 rfl (by omega)
  generalize hW : (w.alloc (.cells #[.int .i64 t, .int .i64 m, .int .i64 b, .slice ao n cap] 24)).alloc (.cells #[.int .u8 71, .int .u8 1] 5) = W
  have O1 : Own W (w.heap.size + 1) (.slice (some ⟨w.heap.size + 1, 0, none⟩) 2 2) [71, 1] := by rw [← hW]; simp at O0; exact O0
  obtain ⟨A0, _, C0⟩ := boxed2 hW
  have Q0 : Hid (Own W (w.heap.size + 1) (.slice (some ⟨w.heap.size + 1, 0, none⟩) 2 2) (f 0)) := by rw [K0.out]; exact O1
  clear O0 O1 hW
  have c0 := A0.cell 0 _ rfl
  have c1 := A0.cell 1 _ rfl
  have c2 := A0.cell 2 _ rfl
  have c3 := A0.cell 3 _ rfl
  have ac := A0.lt
  refine (rput_any t (by omega) (by omega) _).mono ?_; rintro e v0w ⟨v0, rfl, own0, bb0⟩
  have P0 : Hid (Own v0w (w.heap.size + 1) _ (f 0)) := Q0.out.below bb0
  have D0 := bup C0 (Nat.le_refl _) bb0
  have E0 := A0.below bb0 A0.lt
  have d0 := D0.size
  have e0 := E0.lt
  clear Q0 C0 A0 bb0 c0 c1 c2 c3 ac
  go_wp2_with (at_builtin; refine app_wp rfl _ _ rfl (w.heap.size + 1) _ (f 0) rfl (by exact P0.out) _ (put t) rfl (by exact own0.rd) (by omega) (by omega) ?_; intro u0 y0 ow0 by0; have C1 := D0.trans (by0.mono (Nat.le_succ _)); have A1 := E0.below by0 (Nat.lt_succ_self _); have Q1 : Hid (Own y0 (w.heap.size + 1) u0 (f 1)) := (by rw [K1.out]; exact ow0); have c0 := A1.cell 0 _ rfl; have c1 := A1.cell 1 _ rfl; have c2 := A1.cell 2 _ rfl; have c3 := A1.cell 3 _ rfl; have ac := A1.lt; clear P0 D0 d0 e0 E0 ow0 by0 own0)
  refine (rzig_any m (by unfold R64; omega) _).mono ?_; rw [HZ.out]; rintro e w9 ⟨rfl, rfl⟩
  go_wp2_with fail
  refine (rput_any zg (by omega) (by omega) _).mono ?_; rintro e v1w ⟨v1, rfl, own1, bb1⟩
  by_cases hb : b = -1
  · subst hb
    obtain rfl : bk = 0 := HK.out
    have P1 : Hid (Own v1w (w.heap.size + 1) _ (f 1)) := Q1.out.below bb1
    have D1 := bup C1 (Nat.le_refl _) bb1
    have E1 := A1.below bb1 A1.lt
    have d1 := D1.size
    have e1 := E1.lt
    clear Q1 C1 A1 bb1 c0 c1 c2 c3 ac
    have hq : Hid True := trivial
    go_wp2_with (at_builtin; refine app_wp rfl _ _ rfl (w.heap.size + 1) _ (f 1) rfl (by exact P1.out) _ (put zg) rfl (by exact own1.rd) (by omega) (by omega) ?_; intro u1 y1 ow1 by1; have C2 := D1.trans (by1.mono (Nat.le_succ _)); have A2 := E1.below by1 (Nat.lt_succ_self _); have Q2 : Hid (Own y1 (w.heap.size + 1) u1 (f 2)) := (by rw [K2.out]; exact ow1); have c0 := A2.cell 0 _ rfl; have c1 := A2.cell 1 _ rfl; have c2 := A2.cell 2 _ rfl; have c3 := A2.cell 3 _ rfl; have ac := A2.lt; clear P1 D1 d1 e1 E1 ow1 by1 own1)
    refine (rput_any 0 (by omega) (by omega) _).mono ?_; rintro e v2w ⟨v2, rfl, own2, bb2⟩
    have P2 : Hid (Own v2w (w.heap.size + 1) _ (f 2)) := Q2.out.below bb2
    have D2 := bup C2 (Nat.le_refl _) bb2
    have E2 := A2.below bb2 A2.lt
    have d2 := D2.size
    have e2 := E2.lt
    clear Q2 C2 A2 bb2 c0 c1 c2 c3 ac
    go_wp2_with (at_builtin; refine app_wp rfl _ _ rfl (w.heap.size + 1) _ (f 2) rfl (by exact P2.out) _ (put 0) rfl (by exact own2.rd) (by omega) (by omega) ?_; intro u2 y2 ow2 by2; have C3 := D2.trans (by2.mono (Nat.le_succ _)); have A3 := E2.below by2 (Nat.lt_succ_self _); have Q3 : Hid (Own y2 (w.heap.size + 1) u2 (f 3)) := (by rw [K3.out]; exact ow2); have c0 := A3.cell 0 _ rfl; have c1 := A3.cell 1 _ rfl; have c2 := A3.cell 2 _ rfl; have c3 := A3.cell 3 _ rfl; have ac := A3.lt; clear P2 D2 d2 e2 E2 ow2 by2 own2)
    first | (have wn : IntKind.u64.wrap (n : Int) = n := by rw [u64_eq]; omega
             rw [wn]) | skip
    refine (rput_any (n : Int) (by omega) (by omega) _).mono ?_; rintro e v3w ⟨v3, rfl, own3, bb3⟩
    have P3 : Hid (Own v3w (w.heap.size + 1) _ (f 3)) := Q3.out.below bb3
    have D3 := bup C3 (Nat.le_refl _) bb3
    have E3 := A3.below bb3 A3.lt
    have d3 := D3.size
    have e3 := E3.lt
    clear Q3 C3 A3 bb3 c0 c1 c2 c3 ac
    go_wp2_with (at_builtin; refine app_wp rfl _ _ rfl (w.heap.size + 1) _ (f 3) rfl (by exact P3.out) _ (put (n : Int)) rfl (by exact own3.rd) (by omega) (by omega) ?_; intro u3 y3 ow3 by3; have C4 := D3.trans (by3.mono (Nat.le_succ _)); have A4 := E3.below by3 (Nat.lt_succ_self _); have Q4 : Hid (Own y3 (w.heap.size + 1) u3 (f 4)) := (by rw [K4.out]; exact ow3); have c0 := A4.cell 0 _ rfl; have c1 := A4.cell 1 _ rfl; have c2 := A4.cell 2 _ rfl; have c3 := A4.cell 3 _ rfl; have ac := A4.lt; clear P3 D3 d3 e3 E3 ow3 by3 own3)
    clear c0 c1 c2 c3 ac K0 K1 K2 K3 K4 HK HZ L0 L1 L2 L3 p1 p2 p3 p4
    go_loopw [7, 4, 6] (fun i bv lv wr => ∃ k : Nat, k ≤ n ∧ i = .int .i64 k ∧ lv = .int .i64 (lastR (-1) (pre A k)) ∧ chainR (-1) (pre A k) ∧ Own wr (w.heap.size + 1) bv (f 4 ++ encR (-1) (pre A k)) ∧ Blk wr w.heap.size (gmC ⟨t, m, -1⟩ (.slice ao n cap)) ∧ Below w.heap.size w wr) (fun i _ _ _ => n - (intOf i).toNat)
    case atStart => exact ⟨0, by omega, rfl, rfl, trivial, by rw [pre_zero]; simpa [encR] using Q4.out, A4, C4⟩
    case round =>
      obtain ⟨k, hk, rfl, rfl, ch, q1, q3, q4⟩ := hrel
      have CO := chainR_ok _ _ ch
      have LB := lastR_bd _ _ ch (by omega) (by omega)
      rw [pre_len] at CO
      have LE : (f 4 ++ encR (-1) (pre A k)).length ≤ 8746 := by rw [List.length_append]; omega
      have CH : Hid (chainR (-1) (pre A k)) := ch
      have Q1 : Hid (Own wr (w.heap.size + 1) u4 (f 4 ++ encR (-1) (pre A k))) := q1
      have s1 := q4.size
      have x3' := q3.cell 3 _ rfl
      have s3' := q3.lt
      clear q1 ch CO
      by_cases hlt : k < n
      · obtain ⟨ao', cap', e, _, _, h3⟩ := HR.out
        injection e with e1 e2 e3
        subst e1 e3
        obtain ⟨b', o, rfl, hcell⟩ := h3.resolve_left (by omega)
        have okk := HA.out k hlt
        have ERk : Hid (wrE (A k) (lastR (-1) (pre A k)) ≠ 0 → ge = wrE (A k) (lastR (-1) (pre A k)) ∧ gb = []) := ER.out k hlt CH.out
        have YEk : Hid (wrE (A k) (lastR (-1) (pre A k)) = 0 → chainR (-1) (pre A (k + 1)) ∧ encR (-1) (pre A (k + 1)) = encR (-1) (pre A k) ++ wrB (A k) (lastR (-1) (pre A k)) ∧ lastR (-1) (pre A (k + 1)) = (A k).i ∧ wrB (A k) (lastR (-1) (pre A k)) ≠ []) := fun h =>
          ⟨by rw [pre_succ]; exact chainR_snoc _ _ _ CH.out okk h, by rw [pre_succ, encR_snoc], by rw [pre_succ, lastR_snoc], by unfold wrB; rw [if_pos h]; simp⟩
        obtain ⟨r, hr⟩ : ∃ r, A k = r := ⟨_, rfl⟩
        have cc : ∀ w', Below w.heap.size w w' → ∀ j x, (recC r)[j]? = some x → w'.cell? ⟨b', o + k * 9 + j, none⟩ = some x := fun w' q j x hx => by
          have c := hcell k hlt j x (by rw [hr]; exact hx)
          exact (q.cell (p := ⟨b', o + k * 9 + j, none⟩) (World.block_lt_of_cell? w _ c)).trans c
        rw [hr] at okk ERk YEk
        have x0 := cc _ q4 0 _ rfl
        have x1 := cc _ q4 1 _ rfl
        have x2 := cc _ q4 2 _ rfl
        have x3 := cc _ q4 3 _ rfl
        have x4 := cc _ q4 4 _ rfl
        have x5 := cc _ q4 5 _ rfl
        have x6 := cc _ q4 6 _ rfl
        have x7 := cc _ q4 7 _ rfl
        have x8 := cc _ q4 8 _ rfl
        have bl : b' < wr.heap.size := World.block_lt_of_cell? wr _ x0
        have OKR : Hid r.ok := okk
        have HCC : Hid (∀ w', Below w.heap.size w w' → w'.cell? ⟨b', o + k * 9 + 1, none⟩ = some (.int .i64 r.i)) := fun w' q => cc w' q 1 _ rfl
        simp only [Nat.add_zero] at x0
        clear cc hcell hr okk ER YE
        obtain ⟨lst, hlst⟩ : ∃ x, lastR (-1) (pre A k) = x := ⟨_, rfl⟩
        rw [hlst] at LB ERk YEk
        rw [hlst]
        clear hlst
        obtain ⟨lb0, lb1⟩ := LB
        obtain ⟨er, her⟩ : ∃ x, wrE r lst = x := ⟨_, rfl⟩
        obtain ⟨lw, hlw⟩ : ∃ x, wrB r lst = x := ⟨_, rfl⟩
        have HER : Hid (wrE r lst = er ∧ wrB r lst = lw) := ⟨her, hlw⟩
        have LW : lw.length ≤ 68 := by rw [← hlw]; exact wr_len OKR.out
        rw [her] at ERk YEk
        rw [hlw] at YEk
        clear her hlw
        go_wp2_with fail
        clear x0 x1 x2 x3 x4 x5 x6 x7 x8 bl x3'
        refine (doc_write _ r lst OKR.out (by unfold S64; omega)).mono ?_; rw [HER.out.1, HER.out.2]; rintro e w3 ⟨u8', rfl, own3, b3⟩
        have S1 : Hid (Own w3 (w.heap.size + 1) u4 (f 4 ++ encR (-1) (pre A k))) := Own.below Q1.out b3
        have O8 : Hid (Own w3 wr.heap.size u8' lw) := own3
        have T3 := q3.below b3 q3.lt
        have B4 := bup q4 (Nat.le_refl _) b3
        have s3 := B4.size
        have t3 := T3.lt
        clear Q1 own3 b3 q3 q4
        by_cases hz : er = 0
        · obtain ⟨y1, y2, y3, y4⟩ := YEk.out hz
          have Y : Hid (chainR (-1) (pre A (k + 1)) ∧ encR (-1) (pre A (k + 1)) = encR (-1) (pre A k) ++ lw ∧ lastR (-1) (pre A (k + 1)) = r.i) := ⟨y1, y2, y3⟩
          subst hz
          clear ERk YEk y1 y2 y3
          go_wp2_with (at_builtin; refine app_wp rfl _ _ rfl (w.heap.size + 1) _ (f 4 ++ encR (-1) (pre A k)) rfl (by exact S1.out) _ lw rfl (by exact O8.out.rd) (by omega) (by omega) ?_; intro v5 w5 own5 gr5; have T5 := T3.below gr5 (Nat.lt_succ_self _); have B5 := B4.trans (gr5.mono (Nat.le_succ _)); have z3 := T5.cell 3 _ rfl; have z1 := HCC.out _ B5; have zb : b' < w5.heap.size := World.block_lt_of_cell? w5 _ z1; have zl := T5.lt; have O5 : Hid (Own w5 (w.heap.size + 1) v5 (f 4 ++ encR (-1) (pre A k) ++ lw)) := own5; clear own5 S1 O8 T3 B4 gr5)
          go_roundw
          case rel => exact ⟨k + 1, by omega, by go_num, by rw [Y.out.2.2], Y.out.1, by rw [Y.out.2.1, ← List.append_assoc]; exact O5.out, T5, B5⟩
          case measure => simp [intOf]; omega
        · obtain ⟨y1, y2⟩ := ERk.out hz
          have heq : (er == 0) = false := by simp [hz]
          subst y1 y2
          clear ERk YEk
          go_wp2_with fail
          go_ret2
          exact ⟨_, rfl, Own.nil _ _, B4⟩
      · obtain rfl : k = n := by omega
        obtain ⟨y1, y2⟩ := YE.out CH.out
        subst y1
        have Y2 : Hid (gb = f 4 ++ encR (-1) (pre A k)) := y2
        clear y2 ER YE
        go_wp2_with fail
        go_ret2
        exact ⟨_, rfl, by rw [Y2.out]; exact Q1.out.mono (Nat.le_succ _), q4⟩
  · obtain rfl : bk = t - b := HK.out.trans (if_neg hb)
    have hb2 : 0 ≤ b := by omega
    have P1 : Hid (Own v1w (w.heap.size + 1) _ (f 1)) := Q1.out.below bb1
    have D1 := bup C1 (Nat.le_refl _) bb1
    have E1 := A1.below bb1 A1.lt
    have d1 := D1.size
    have e1 := E1.lt
    clear Q1 C1 A1 bb1 c0 c1 c2 c3 ac
    have hq : Hid True := trivial
    go_wp2_with (at_builtin; refine app_wp rfl _ _ rfl (w.heap.size + 1) _ (f 1) rfl (by exact P1.out) _ (put zg) rfl (by exact own1.rd) (by omega) (by omega) ?_; intro u1 y1 ow1 by1; have C2 := D1.trans (by1.mono (Nat.le_succ _)); have A2 := E1.below by1 (Nat.lt_succ_self _); have Q2 : Hid (Own y1 (w.heap.size + 1) u1 (f 2)) := (by rw [K2.out]; exact ow1); have c0 := A2.cell 0 _ rfl; have c1 := A2.cell 1 _ rfl; have c2 := A2.cell 2 _ rfl; have c3 := A2.cell 3 _ rfl; have ac := A2.lt; clear P1 D1 d1 e1 E1 ow1 by1 own1)
    refine (rput_any (t - b) (by omega) (by omega) _).mono ?_; rintro e v2w ⟨v2, rfl, own2, bb2⟩
    have P2 : Hid (Own v2w (w.heap.size + 1) _ (f 2)) := Q2.out.below bb2
    have D2 := bup C2 (Nat.le_refl _) bb2
    have E2 := A2.below bb2 A2.lt
    have d2 := D2.size
    have e2 := E2.lt
    clear Q2 C2 A2 bb2 c0 c1 c2 c3 ac
    go_wp2_with (at_builtin; refine app_wp rfl _ _ rfl (w.heap.size + 1) _ (f 2) rfl (by exact P2.out) _ (put (t - b)) rfl (by exact own2.rd) (by omega) (by omega) ?_; intro u2 y2 ow2 by2; have C3 := D2.trans (by2.mono (Nat.le_succ _)); have A3 := E2.below by2 (Nat.lt_succ_self _); have Q3 : Hid (Own y2 (w.heap.size + 1) u2 (f 3)) := (by rw [K3.out]; exact ow2); have c0 := A3.cell 0 _ rfl; have c1 := A3.cell 1 _ rfl; have c2 := A3.cell 2 _ rfl; have c3 := A3.cell 3 _ rfl; have ac := A3.lt; clear P2 D2 d2 e2 E2 ow2 by2 own2)
    first | (have wn : IntKind.u64.wrap (n : Int) = n := by rw [u64_eq]; omega
             rw [wn]) | skip
    refine (rput_any (n : Int) (by omega) (by omega) _).mono ?_; rintro e v3w ⟨v3, rfl, own3, bb3⟩
    have P3 : Hid (Own v3w (w.heap.size + 1) _ (f 3)) := Q3.out.below bb3
    have D3 := bup C3 (Nat.le_refl _) bb3
    have E3 := A3.below bb3 A3.lt
    have d3 := D3.size
    have e3 := E3.lt
    clear Q3 C3 A3 bb3 c0 c1 c2 c3 ac
    go_wp2_with (at_builtin; refine app_wp rfl _ _ rfl (w.heap.size + 1) _ (f 3) rfl (by exact P3.out) _ (put (n : Int)) rfl (by exact own3.rd) (by omega) (by omega) ?_; intro u3 y3 ow3 by3; have C4 := D3.trans (by3.mono (Nat.le_succ _)); have A4 := E3.below by3 (Nat.lt_succ_self _); have Q4 : Hid (Own y3 (w.heap.size + 1) u3 (f 4)) := (by rw [K4.out]; exact ow3); have c0 := A4.cell 0 _ rfl; have c1 := A4.cell 1 _ rfl; have c2 := A4.cell 2 _ rfl; have c3 := A4.cell 3 _ rfl; have ac := A4.lt; clear P3 D3 d3 e3 E3 ow3 by3 own3)
    clear c0 c1 c2 c3 ac K0 K1 K2 K3 K4 HK HZ L0 L1 L2 L3 p1 p2 p3 p4
    go_loopw [7, 4, 6] (fun i bv lv wr => ∃ k : Nat, k ≤ n ∧ i = .int .i64 k ∧ lv = .int .i64 (lastR (-1) (pre A k)) ∧ chainR (-1) (pre A k) ∧ Own wr (w.heap.size + 1) bv (f 4 ++ encR (-1) (pre A k)) ∧ Blk wr w.heap.size (gmC ⟨t, m, b⟩ (.slice ao n cap)) ∧ Below w.heap.size w wr) (fun i _ _ _ => n - (intOf i).toNat)
    case atStart => exact ⟨0, by omega, rfl, rfl, trivial, by rw [pre_zero]; simpa [encR] using Q4.out, A4, C4⟩
    case round =>
      obtain ⟨k, hk, rfl, rfl, ch, q1, q3, q4⟩ := hrel
      have CO := chainR_ok _ _ ch
      have LB := lastR_bd _ _ ch (by omega) (by omega)
      rw [pre_len] at CO
      have LE : (f 4 ++ encR (-1) (pre A k)).length ≤ 8746 := by rw [List.length_append]; omega
      have CH : Hid (chainR (-1) (pre A k)) := ch
      have Q1 : Hid (Own wr (w.heap.size + 1) u4 (f 4 ++ encR (-1) (pre A k))) := q1
      have s1 := q4.size
      have x3' := q3.cell 3 _ rfl
      have s3' := q3.lt
      clear q1 ch CO
      by_cases hlt : k < n
      · obtain ⟨ao', cap', e, _, _, h3⟩ := HR.out
        injection e with e1 e2 e3
        subst e1 e3
        obtain ⟨b', o, rfl, hcell⟩ := h3.resolve_left (by omega)
        have okk := HA.out k hlt
        have ERk : Hid (wrE (A k) (lastR (-1) (pre A k)) ≠ 0 → ge = wrE (A k) (lastR (-1) (pre A k)) ∧ gb = []) := ER.out k hlt CH.out
        have YEk : Hid (wrE (A k) (lastR (-1) (pre A k)) = 0 → chainR (-1) (pre A (k + 1)) ∧ encR (-1) (pre A (k + 1)) = encR (-1) (pre A k) ++ wrB (A k) (lastR (-1) (pre A k)) ∧ lastR (-1) (pre A (k + 1)) = (A k).i ∧ wrB (A k) (lastR (-1) (pre A k)) ≠ []) := fun h =>
          ⟨by rw [pre_succ]; exact chainR_snoc _ _ _ CH.out okk h, by rw [pre_succ, encR_snoc], by rw [pre_succ, lastR_snoc], by unfold wrB; rw [if_pos h]; simp⟩
        obtain ⟨r, hr⟩ : ∃ r, A k = r := ⟨_, rfl⟩
        have cc : ∀ w', Below w.heap.size w w' → ∀ j x, (recC r)[j]? = some x → w'.cell? ⟨b', o + k * 9 + j, none⟩ = some x := fun w' q j x hx => by
          have c := hcell k hlt j x (by rw [hr]; exact hx)
          exact (q.cell (p := ⟨b', o + k * 9 + j, none⟩) (World.block_lt_of_cell? w _ c)).trans c
        rw [hr] at okk ERk YEk
        have x0 := cc _ q4 0 _ rfl
        have x1 := cc _ q4 1 _ rfl
        have x2 := cc _ q4 2 _ rfl
        have x3 := cc _ q4 3 _ rfl
        have x4 := cc _ q4 4 _ rfl
        have x5 := cc _ q4 5 _ rfl
        have x6 := cc _ q4 6 _ rfl
        have x7 := cc _ q4 7 _ rfl
        have x8 := cc _ q4 8 _ rfl
        have bl : b' < wr.heap.size := World.block_lt_of_cell? wr _ x0
        have OKR : Hid r.ok := okk
        have HCC : Hid (∀ w', Below w.heap.size w w' → w'.cell? ⟨b', o + k * 9 + 1, none⟩ = some (.int .i64 r.i)) := fun w' q => cc w' q 1 _ rfl
        simp only [Nat.add_zero] at x0
        clear cc hcell hr okk ER YE
        obtain ⟨lst, hlst⟩ : ∃ x, lastR (-1) (pre A k) = x := ⟨_, rfl⟩
        rw [hlst] at LB ERk YEk
        rw [hlst]
        clear hlst
        obtain ⟨lb0, lb1⟩ := LB
        obtain ⟨er, her⟩ : ∃ x, wrE r lst = x := ⟨_, rfl⟩
        obtain ⟨lw, hlw⟩ : ∃ x, wrB r lst = x := ⟨_, rfl⟩
        have HER : Hid (wrE r lst = er ∧ wrB r lst = lw) := ⟨her, hlw⟩
        have LW : lw.length ≤ 68 := by rw [← hlw]; exact wr_len OKR.out
        rw [her] at ERk YEk
        rw [hlw] at YEk
        clear her hlw
        go_wp2_with fail
        clear x0 x1 x2 x3 x4 x5 x6 x7 x8 bl x3'
        refine (doc_write _ r lst OKR.out (by unfold S64; omega)).mono ?_; rw [HER.out.1, HER.out.2]; rintro e w3 ⟨u8', rfl, own3, b3⟩
        have S1 : Hid (Own w3 (w.heap.size + 1) u4 (f 4 ++ encR (-1) (pre A k))) := Own.below Q1.out b3
        have O8 : Hid (Own w3 wr.heap.size u8' lw) := own3
        have T3 := q3.below b3 q3.lt
        have B4 := bup q4 (Nat.le_refl _) b3
        have s3 := B4.size
        have t3 := T3.lt
        clear Q1 own3 b3 q3 q4
        by_cases hz : er = 0
        · obtain ⟨y1, y2, y3, y4⟩ := YEk.out hz
          have Y : Hid (chainR (-1) (pre A (k + 1)) ∧ encR (-1) (pre A (k + 1)) = encR (-1) (pre A k) ++ lw ∧ lastR (-1) (pre A (k + 1)) = r.i) := ⟨y1, y2, y3⟩
          subst hz
          clear ERk YEk y1 y2 y3
          go_wp2_with (at_builtin; refine app_wp rfl _ _ rfl (w.heap.size + 1) _ (f 4 ++ encR (-1) (pre A k)) rfl (by exact S1.out) _ lw rfl (by exact O8.out.rd) (by omega) (by omega) ?_; intro v5 w5 own5 gr5; have T5 := T3.below gr5 (Nat.lt_succ_self _); have B5 := B4.trans (gr5.mono (Nat.le_succ _)); have z3 := T5.cell 3 _ rfl; have z1 := HCC.out _ B5; have zb : b' < w5.heap.size := World.block_lt_of_cell? w5 _ z1; have zl := T5.lt; have O5 : Hid (Own w5 (w.heap.size + 1) v5 (f 4 ++ encR (-1) (pre A k) ++ lw)) := own5; clear own5 S1 O8 T3 B4 gr5)
          go_roundw
          case rel => exact ⟨k + 1, by omega, by go_num, by rw [Y.out.2.2], Y.out.1, by rw [Y.out.2.1, ← List.append_assoc]; exact O5.out, T5, B5⟩
          case measure => simp [intOf]; omega
        · obtain ⟨y1, y2⟩ := ERk.out hz
          have heq : (er == 0) = false := by simp [hz]
          subst y1 y2
          clear ERk YEk
          go_wp2_with fail
          go_ret2
          exact ⟨_, rfl, Own.nil _ _, B4⟩
      · obtain rfl : k = n := by omega
        obtain ⟨y1, y2⟩ := YE.out CH.out
        subst y1
        have Y2 : Hid (gb = f 4 ++ encR (-1) (pre A k)) := y2
        clear y2 ER YE
        go_wp2_with fail
        go_ret2
        exact ⟨_, rfl, by rw [Y2.out]; exact Q1.out.mono (Nat.le_succ _), q4⟩

theorem dg_body (w : World) (g : Gm) (ok : g.ok) (v : Value) (n : Nat) (A : Nat → Rc) (hA : ∀ i, i < n → (A i).ok) (hv : RdR w v n A) :
    Calls Try.prog 22 #[gmV g v] w fun e w' => ∃ u, e = .returned (.tuple #[u, .int .i64 (gmE g A n)]) ∧ Own w' w.heap.size u (bodB g A n) ∧ Below w.heap.size w w' := by
  by_cases h : hedE g n = 0
  · exact dg_body_yes w g v n A hA hv h
  · exact dg_body_no w g ok v n A hv h
end Go.Proofs.Ytlhfelelgkkblaa
