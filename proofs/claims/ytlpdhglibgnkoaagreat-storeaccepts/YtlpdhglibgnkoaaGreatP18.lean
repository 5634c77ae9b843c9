/-
  Texts Gm6, Gm7, Fr9, Gm8 in one.
-/
import Derived.Test.YtlpdhglibgnkoaaGreatP17
namespace Go.Proofs.YtlpdhglibgnkoaaGreat
open Go.RowKit
set_option linter.unusedVariables false
set_option maxRecDepth 8000

theorem dg_body_no (w : World) (g : Gm) (ok : g.ok) (v : Value) (n : Nat) (A : Nat → Rc) (hv : RdR w v n A) (h : hedE g n ≠ 0) :
    Calls Tryz.prog 97 #[gmV g v] w fun e w' => ∃ u, e = .returned (.tuple #[u, .int .i64 (gmE g A n)]) ∧ Own w' w.heap.size u (bodB g A n) ∧ Below w.heap.size w w' := by
  obtain ⟨ao, cap, rfl, hc, hm, _⟩ := hv
  have NO : Hid (hedE g n ≠ 0 → gmE g A n = hedE g n ∧ bodB g A n = []) := fun h => by
    have e : gmE g A n = hedE g n := by unfold gmE; rw [if_neg h]
    exact ⟨e, by unfold bodB; rw [if_neg (by rw [e]; exact h)]⟩
  obtain ⟨he, ehe⟩ : ∃ x, hedE g n = x := ⟨_, rfl⟩
  obtain ⟨ge, ege⟩ : ∃ x, gmE g A n = x := ⟨_, rfl⟩
  obtain ⟨gb, egb⟩ : ∃ x, bodB g A n = x := ⟨_, rfl⟩
  have T0 := ok.t
  have M0 := ok.m
  have B0 := ok.b
  obtain ⟨t, m, b⟩ := g
  simp only at T0 M0 B0
  have HE : Hid (he = if t < 0 ∨ 4294967295 < t ∨ (m < -2305843009213693952 ∨ 2305843009213693952 < m) ∨ b < -1 then 3 else if t ≤ b then 10 else if 128 < n then 8 else 0) := by
    have e : (timB m = false) ↔ (m < -2305843009213693952 ∨ 2305843009213693952 < m) := by
      unfold timB
      simp only [Bool.and_eq_false_iff, decide_eq_false_iff_not]
      omega
    show he = _
    rw [← ehe]
    unfold hedE
    simp only [e]
  rw [ehe, ege, egb] at NO
  rw [ege, egb]
  rw [ehe] at h
  unfold S64 at T0 M0 B0
  obtain ⟨t0, t1⟩ := T0
  obtain ⟨m0, m1⟩ := M0
  obtain ⟨b0, b1⟩ := B0
  clear ehe ege egb ok
  by_cases c1 : t < 0
  · have EV : he = 3 := HE.out.trans (if_pos (Or.inl c1))
    subst EV
    obtain ⟨y1, y2⟩ := NO.out (by decide)
    subst y1 y2
    clear NO HE
    go_enter Tryz.func97, Tryz.ntmps97
    go_wp2_with fail
    go_ret2
    exact ⟨_, rfl, Own.nil _ _, (Below.refl _ _).alloc (Nat.le_refl _) _⟩
  by_cases c2 : 4294967295 < t
  · have EV : he = 3 := HE.out.trans (if_pos (Or.inr (Or.inl c2)))
    subst EV
    obtain ⟨y1, y2⟩ := NO.out (by decide)
    subst y1 y2
    clear NO HE
    go_enter Tryz.func97, Tryz.ntmps97
    go_wp2_with fail
    go_ret2
    exact ⟨_, rfl, Own.nil _ _, (Below.refl _ _).alloc (Nat.le_refl _) _⟩
  by_cases c3 : m < -2305843009213693952
  · have EV : he = 3 := HE.out.trans (if_pos (Or.inr (Or.inr (Or.inl (Or.inl c3)))))
    subst EV
    obtain ⟨y1, y2⟩ := NO.out (by decide)
    subst y1 y2
    clear NO HE
    go_enter Tryz.func97, Tryz.ntmps97
    go_wp2_with fail
    go_ret2
    exact ⟨_, rfl, Own.nil _ _, (Below.refl _ _).alloc (Nat.le_refl _) _⟩
  by_cases c4 : 2305843009213693952 < m
  · have EV : he = 3 := HE.out.trans (if_pos (Or.inr (Or.inr (Or.inl (Or.inr c4)))))
    subst EV
    obtain ⟨y1, y2⟩ := NO.out (by decide)
    subst y1 y2
    clear NO HE
    go_enter Tryz.func97, Tryz.ntmps97
    go_wp2_with fail
    go_ret2
    exact ⟨_, rfl, Own.nil _ _, (Below.refl _ _).alloc (Nat.le_refl _) _⟩
  by_cases c5 : b < -1
  · have EV : he = 3 := HE.out.trans (if_pos (Or.inr (Or.inr (Or.inr c5))))
    subst EV
    obtain ⟨y1, y2⟩ := NO.out (by decide)
    subst y1 y2
    clear NO HE
    go_enter Tryz.func97, Tryz.ntmps97
    go_wp2_with fail
    go_ret2
    exact ⟨_, rfl, Own.nil _ _, (Below.refl _ _).alloc (Nat.le_refl _) _⟩
  have NN : ¬ (t < 0 ∨ 4294967295 < t ∨ (m < -2305843009213693952 ∨ 2305843009213693952 < m) ∨ b < -1) := by omega
  by_cases c6 : t ≤ b
  · have EV : he = 10 := HE.out.trans ((if_neg NN).trans (if_pos c6))
    subst EV
    obtain ⟨y1, y2⟩ := NO.out (by decide)
    subst y1 y2
    clear NO HE NN
    go_enter Tryz.func97, Tryz.ntmps97
    go_wp2_with fail
    go_ret2
    exact ⟨_, rfl, Own.nil _ _, (Below.refl _ _).alloc (Nat.le_refl _) _⟩
  by_cases c7 : 128 < n
  · have EV : he = 8 := HE.out.trans ((if_neg NN).trans ((if_neg c6).trans (if_pos c7)))
    subst EV
    obtain ⟨y1, y2⟩ := NO.out (by decide)
    subst y1 y2
    clear NO HE NN
    go_enter Tryz.func97, Tryz.ntmps97
    go_wp2_with fail
    go_ret2
    exact ⟨_, rfl, Own.nil _ _, (Below.refl _ _).alloc (Nat.le_refl _) _⟩
  exact absurd (HE.out.trans ((if_neg NN).trans ((if_neg c6).trans (if_neg c7)))) h

set_option maxHeartbeats 4000000 in
theorem dg_body_yes (w : World) (g : Gm) (v : Value) (n : Nat) (A : Nat → Rc) (hA : ∀ i, i < n → (A i).ok) (hv : RdR w v n A) (h : hedE g n = 0) :
    Calls Tryz.prog 97 #[gmV g v] w fun e w' => ∃ u, e = .returned (.tuple #[u, .int .i64 (gmE g A n)]) ∧ Own w' w.heap.size u (bodB g A n) ∧ Below w.heap.size w w' := by
  have HA : Hid (∀ i, i < n → (A i).ok) := hA
  have HR : Hid (RdR w v n A) := hv
  obtain ⟨ao, cap, rfl, hc, hm, _⟩ := hv
  have HO := hed_ok h
  have BK := bk_bd h
  have ZB := zig_u64 (x := g.m) (by unfold R64; omega)
  have HK : Hid (bkI g = if g.b = -1 then 0 else g.t - g.b) := rfl
  have YE : Hid (chainR (-1) (pre A n) → gmE g A n = 0 ∧ bodB g A n = hedK g n 4 ++ encR (-1) (pre A n)) := fun hc => by
    have e : gmE g A n = 0 := by unfold gmE; rw [if_pos h]; exact fir_chain _ _ hc
    exact ⟨e, by unfold bodB; rw [if_pos e, hedK_four]; rfl⟩
  have ER : Hid (∀ k, k < n → chainR (-1) (pre A k) → wrE (A k) (lastR (-1) (pre A k)) ≠ 0 → gmE g A n = wrE (A k) (lastR (-1) (pre A k)) ∧ bodB g A n = []) := fun k hk hc he => by
    have e : gmE g A n = wrE (A k) (lastR (-1) (pre A k)) := by unfold gmE; rw [if_pos h]; exact fir_pre hk hc he
    exact ⟨e, by unfold bodB; rw [if_neg (by rw [e]; exact he)]⟩
  have K0 : Hid (hedK g n 0 = [71, 1]) := (by unfold hedK; simp : hedK g n 0 = [71, 1])
  have K1 : Hid (hedK g n 1 = hedK g n 0 ++ put g.t) := (by unfold hedK; simp : hedK g n 1 = hedK g n 0 ++ put g.t)
  have K2 : Hid (hedK g n 2 = hedK g n 1 ++ put (zig g.m)) := (by unfold hedK; simp : hedK g n 2 = hedK g n 1 ++ put (zig g.m))
  have K3 : Hid (hedK g n 3 = hedK g n 2 ++ put (bkI g)) := (by unfold hedK; simp : hedK g n 3 = hedK g n 2 ++ put (bkI g))
  have K4 : Hid (hedK g n 4 = hedK g n 3 ++ put (n : Int)) := (by unfold hedK; simp : hedK g n 4 = hedK g n 3 ++ put (n : Int))
  have p1 := put_ten (x := g.t) (by omega) (by omega)
  have p2 := put_ten (x := zig g.m) (by omega) (by omega)
  have p3 := put_ten (x := bkI g) (by omega) (by omega)
  have p4 := put_ten (x := (n : Int)) (by omega) (by omega)
  have L0 : (hedK g n 0).length = 2 := by rw [K0.out]; rfl
  have L1 : (hedK g n 1).length ≤ 12 := by rw [K1.out, List.length_append]; omega
  have L2 : (hedK g n 2).length ≤ 22 := by rw [K2.out, List.length_append]; omega
  have L3 : (hedK g n 3).length ≤ 32 := by rw [K3.out, List.length_append]; omega
  have L4 : (hedK g n 4).length ≤ 42 := by rw [K4.out, List.length_append]; omega
  clear h hA
  obtain ⟨bk, hbk⟩ : ∃ x, bkI g = x := ⟨_, rfl⟩
  obtain ⟨zg, hzg⟩ : ∃ x, zig g.m = x := ⟨_, rfl⟩
  have HZ : Hid (zig g.m = zg) := hzg
  rw [hbk] at BK K3 p3 HK
  rw [hzg] at ZB K2 p2
  obtain ⟨f, hf⟩ : ∃ f : Nat → List Int, hedK g n = f := ⟨_, rfl⟩
  rw [hf] at K0 K1 K2 K3 K4 L0 L1 L2 L3 L4 YE
  obtain ⟨ge, ege⟩ : ∃ x, gmE g A n = x := ⟨_, rfl⟩
  obtain ⟨gb, egb⟩ : ∃ x, bodB g A n = x := ⟨_, rfl⟩
  rw [ege, egb] at YE ER
  rw [ege, egb]
  clear hbk hzg hf ege egb
  obtain ⟨t, m, b⟩ := g
  simp only at HO BK
  obtain ⟨o1, o2, o3, o4, o5, o6, o7⟩ := HO
  obtain ⟨k1, k2, _⟩ := BK
  obtain ⟨z1, z2⟩ := ZB
  go_enter Tryz.func97, Tryz.ntmps97
  go_wp2_with fail
  have O0 := Own.built (w.alloc (.cells (gmA ⟨t, m, b⟩ (.slice ao n cap)) 61)) (w.heap.size + 1) (by simp) [71, 1] 2 rfl (by omega)
  generalize hW : (w.alloc (.cells #[.int .i64 t, .int .i64 m, .int .i64 b, .slice ao n cap] 61)).alloc (.cells #[.int .u8 71, .int .u8 1] 5) = W
  have O1 : Own W (w.heap.size + 1) (.slice (some ⟨w.heap.size + 1, 0, none⟩) 2 2) [71, 1] := by rw [← hW]; simp at O0; exact O0
  obtain ⟨A0, _, C0⟩ := boxed2 hW
  have Q0 : Hid (Own W (w.heap.size + 1) (.slice (some ⟨w.heap.size + 1, 0, none⟩) 2 2) (f 0)) := by rw [K0.out]; exact O1
  clear O0 O1 hW
  have c0 := A0.cell 0 _ rfl
  have c1 := A0.cell 1 _ rfl
  have c2 := A0.cell 2 _ rfl
  have c3 := A0.cell 3 _ rfl
  have ac := A0.lt
  refine (rput_any t (by omega) (by omega) _).mono ?_; rintro e v0w ⟨v0, rfl, own0, bb0⟩
  have P0 : Hid (Own v0w (w.heap.size + 1) _ (f 0)) := Q0.out.below bb0
  have D0 := bup C0 (Nat.le_refl _) bb0
  have E0 := A0.below bb0 A0.lt
  have d0 := D0.size
  have e0 := E0.lt
  clear Q0 C0 A0 bb0 c0 c1 c2 c3 ac
  go_wp2_with (at_builtin; refine app_wp rfl _ _ rfl (w.heap.size + 1) _ (f 0) rfl (by exact P0.out) _ (put t) rfl (by exact own0.rd) (by omega) (by omega) ?_; intro u0 y0 ow0 by0; have C1 := D0.trans (by0.mono (Nat.le_succ _)); have A1 := E0.below by0 (Nat.lt_succ_self _); have Q1 : Hid (Own y0 (w.heap.size + 1) u0 (f 1)) := (by rw [K1.out]; exact ow0); have c0 := A1.cell 0 _ rfl; have c1 := A1.cell 1 _ rfl; have c2 := A1.cell 2 _ rfl; have c3 := A1.cell 3 _ rfl; have ac := A1.lt; clear P0 D0 d0 e0 E0 ow0 by0 own0)
  refine (rzig_any m (by unfold R64; omega) _).mono ?_; rw [HZ.out]; rintro e w9 ⟨rfl, rfl⟩
  go_wp2_with fail
  refine (rput_any zg (by omega) (by omega) _).mono ?_; rintro e v1w ⟨v1, rfl, own1, bb1⟩
  by_cases hb : b = -1
  · subst hb
    obtain rfl : bk = 0 := HK.out
    have P1 : Hid (Own v1w (w.heap.size + 1) _ (f 1)) := Q1.out.below bb1
    have D1 := bup C1 (Nat.le_refl _) bb1
    have E1 := A1.below bb1 A1.lt
    have d1 := D1.size
    have e1 := E1.lt
    clear Q1 C1 A1 bb1 c0 c1 c2 c3 ac
    have hq : Hid True := trivial
    go_wp2_with (at_builtin; refine app_wp rfl _ _ rfl (w.heap.size + 1) _ (f 1) rfl (by exact P1.out) _ (put zg) rfl (by exact own1.rd) (by omega) (by omega) ?_; intro u1 y1 ow1 by1; have C2 := D1.trans (by1.mono (Nat.le_succ _)); have A2 := E1.below by1 (Nat.lt_succ_self _); have Q2 : Hid (Own y1 (w.heap.size + 1) u1 (f 2)) := (by rw [K2.out]; exact ow1); have c0 := A2.cell 0 _ rfl; have c1 := A2.cell 1 _ rfl; have c2 := A2.cell 2 _ rfl; have c3 := A2.cell 3 _ rfl; have ac := A2.lt; clear P1 D1 d1 e1 E1 ow1 by1 own1)
    refine (rput_any 0 (by omega) (by omega) _).mono ?_; rintro e v2w ⟨v2, rfl, own2, bb2⟩
    have P2 : Hid (Own v2w (w.heap.size + 1) _ (f 2)) := Q2.out.below bb2
    have D2 := bup C2 (Nat.le_refl _) bb2
    have E2 := A2.below bb2 A2.lt
    have d2 := D2.size
    have e2 := E2.lt
    clear Q2 C2 A2 bb2 c0 c1 c2 c3 ac
    go_wp2_with (at_builtin; refine app_wp rfl _ _ rfl (w.heap.size + 1) _ (f 2) rfl (by exact P2.out) _ (put 0) rfl (by exact own2.rd) (by omega) (by omega) ?_; intro u2 y2 ow2 by2; have C3 := D2.trans (by2.mono (Nat.le_succ _)); have A3 := E2.below by2 (Nat.lt_succ_self _); have Q3 : Hid (Own y2 (w.heap.size + 1) u2 (f 3)) := (by rw [K3.out]; exact ow2); have c0 := A3.cell 0 _ rfl; have c1 := A3.cell 1 _ rfl; have c2 := A3.cell 2 _ rfl; have c3 := A3.cell 3 _ rfl; have ac := A3.lt; clear P2 D2 d2 e2 E2 ow2 by2 own2)
    first | (have wn : IntKind.u64.wrap (n : Int) = n := by rw [u64_eq]; omega
             rw [wn]) | skip
    refine (rput_any (n : Int) (by omega) (by omega) _).mono ?_; rintro e v3w ⟨v3, rfl, own3, bb3⟩
    have P3 : Hid (Own v3w (w.heap.size + 1) _ (f 3)) := Q3.out.below bb3
    have D3 := bup C3 (Nat.le_refl _) bb3
    have E3 := A3.below bb3 A3.lt
    have d3 := D3.size
    have e3 := E3.lt
    clear Q3 C3 A3 bb3 c0 c1 c2 c3 ac
    go_wp2_with (at_builtin; refine app_wp rfl _ _ rfl (w.heap.size + 1) _ (f 3) rfl (by exact P3.out) _ (put (n : Int)) rfl (by exact own3.rd) (by omega) (by omega) ?_; intro u3 y3 ow3 by3; have C4 := D3.trans (by3.mono (Nat.le_succ _)); have A4 := E3.below by3 (Nat.lt_succ_self _); have Q4 : Hid (Own y3 (w.heap.size + 1) u3 (f 4)) := (by rw [K4.out]; exact ow3); have c0 := A4.cell 0 _ rfl; have c1 := A4.cell 1 _ rfl; have c2 := A4.cell 2 _ rfl; have c3 := A4.cell 3 _ rfl; have ac := A4.lt; clear P3 D3 d3 e3 E3 ow3 by3 own3)
    clear c0 c1 c2 c3 ac K0 K1 K2 K3 K4 HK HZ L0 L1 L2 L3 p1 p2 p3 p4
    go_loopw [7, 4, 6] (fun i bv lv wr => ∃ k : Nat, k ≤ n ∧ i = .int .i64 k ∧ lv = .int .i64 (lastR (-1) (pre A k)) ∧ chainR (-1) (pre A k) ∧ Own wr (w.heap.size + 1) bv (f 4 ++ encR (-1) (pre A k)) ∧ Blk wr w.heap.size (gmC ⟨t, m, -1⟩ (.slice ao n cap)) ∧ Below w.heap.size w wr) (fun i _ _ _ => n - (intOf i).toNat)
    case atStart => exact ⟨0, by omega, rfl, rfl, trivial, by rw [pre_zero]; simpa [encR] using Q4.out, A4, C4⟩
    case round =>
      obtain ⟨k, hk, rfl, rfl, ch, q1, q3, q4⟩ := hrel
      have CO := chainR_ok _ _ ch
      have LB := lastR_bd _ _ ch (by omega) (by omega)
      rw [pre_len] at CO
      have LE : (f 4 ++ encR (-1) (pre A k)).length ≤ 8746 := by rw [List.length_append]; omega
      have CH : Hid (chainR (-1) (pre A k)) := ch
      have Q1 : Hid (Own wr (w.heap.size + 1) u4 (f 4 ++ encR (-1) (pre A k))) := q1
      have s1 := q4.size
      have x3' := q3.cell 3 _ rfl
      have s3' := q3.lt
      clear q1 ch CO
      by_cases hlt : k < n
      · obtain ⟨ao', cap', e, _, _, h3⟩ := HR.out
        injection e with e1 e2 e3
        subst e1 e3
        obtain ⟨b', o, rfl, hcell⟩ := h3.resolve_left (by omega)
        have okk := HA.out k hlt
        have ERk : Hid (wrE (A k) (lastR (-1) (pre A k)) ≠ 0 → ge = wrE (A k) (lastR (-1) (pre A k)) ∧ gb = []) := ER.out k hlt CH.out
        have YEk : Hid (wrE (A k) (lastR (-1) (pre A k)) = 0 → chainR (-1) (pre A (k + 1)) ∧ encR (-1) (pre A (k + 1)) = encR (-1) (pre A k) ++ wrB (A k) (lastR (-1) (pre A k)) ∧ lastR (-1) (pre A (k + 1)) = (A k).i ∧ wrB (A k) (lastR (-1) (pre A k)) ≠ []) := fun h =>
          ⟨by rw [pre_succ]; exact chainR_snoc _ _ _ CH.out okk h, by rw [pre_succ, encR_snoc], by rw [pre_succ, lastR_snoc], by unfold wrB; rw [if_pos h]; simp⟩
        obtain ⟨r, hr⟩ : ∃ r, A k = r := ⟨_, rfl⟩
        have cc : ∀ w', Below w.heap.size w w' → ∀ j x, (recC r)[j]? = some x → w'.cell? ⟨b', o + k * 9 + j, none⟩ = some x := fun w' q j x hx => by
          have c := hcell k hlt j x (by rw [hr]; exact hx)
          exact (q.cell (p := ⟨b', o + k * 9 + j, none⟩) (World.block_lt_of_cell? w _ c)).trans c
        rw [hr] at okk ERk YEk
        have x0 := cc _ q4 0 _ rfl
        have x1 := cc _ q4 1 _ rfl
        have x2 := cc _ q4 2 _ rfl
        have x3 := cc _ q4 3 _ rfl
        have x4 := cc _ q4 4 _ rfl
        have x5 := cc _ q4 5 _ rfl
        have x6 := cc _ q4 6 _ rfl
        have x7 := cc _ q4 7 _ rfl
        have x8 := cc _ q4 8 _ rfl
        have bl : b' < wr.heap.size := World.block_lt_of_cell? wr _ x0
        have OKR : Hid r.ok := okk
        have HCC : Hid (∀ w', Below w.heap.size w w' → w'.cell? ⟨b', o + k * 9 + 1, none⟩ = some (.int .i64 r.i)) := fun w' q => cc w' q 1 _ rfl
        simp only [Nat.add_zero] at x0
        clear cc hcell hr okk ER YE
        obtain ⟨lst, hlst⟩ : ∃ x, lastR (-1) (pre A k) = x := ⟨_, rfl⟩
        rw [hlst] at LB ERk YEk
        rw [hlst]
        clear hlst
        obtain ⟨lb0, lb1⟩ := LB
        obtain ⟨er, her⟩ : ∃ x, wrE r lst = x := ⟨_, rfl⟩
        obtain ⟨lw, hlw⟩ : ∃ x, wrB r lst = x := ⟨_, rfl⟩
        have HER : Hid (wrE r lst = er ∧ wrB r lst = lw) := ⟨her, hlw⟩
        have LW : lw.length ≤ 68 := by rw [← hlw]; exact wr_len OKR.out
        rw [her] at ERk YEk
        rw [hlw] at YEk
        clear her hlw
        go_wp2_with fail
        clear x0 x1 x2 x3 x4 x5 x6 x7 x8 bl x3'
        refine (doc_write _ r lst OKR.out (by unfold S64; omega)).mono ?_; rw [HER.out.1, HER.out.2]; rintro e w3 ⟨u8', rfl, own3, b3⟩
        have S1 : Hid (Own w3 (w.heap.size + 1) u4 (f 4 ++ encR (-1) (pre A k))) := Own.below Q1.out b3
        have O8 : Hid (Own w3 wr.heap.size u8' lw) := own3
        have T3 := q3.below b3 q3.lt
        have B4 := bup q4 (Nat.le_refl _) b3
        have s3 := B4.size
        have t3 := T3.lt
        clear Q1 own3 b3 q3 q4
        by_cases hz : er = 0
        · obtain ⟨y1, y2, y3, y4⟩ := YEk.out hz
          have Y : Hid (chainR (-1) (pre A (k + 1)) ∧ encR (-1) (pre A (k + 1)) = encR (-1) (pre A k) ++ lw ∧ lastR (-1) (pre A (k + 1)) = r.i) := ⟨y1, y2, y3⟩
          subst hz
          clear ERk YEk y1 y2 y3
          go_wp2_with (at_builtin; refine app_wp rfl _ _ rfl (w.heap.size + 1) _ (f 4 ++ encR (-1) (pre A k)) rfl (by exact S1.out) _ lw rfl (by exact O8.out.rd) (by omega) (by omega) ?_; intro v5 w5 own5 gr5; have T5 := T3.below gr5 (Nat.lt_succ_self _); have B5 := B4.trans (gr5.mono (Nat.le_succ _)); have z3 := T5.cell 3 _ rfl; have z1 := HCC.out _ B5; have zb : b' < w5.heap.size := World.block_lt_of_cell? w5 _ z1; have zl := T5.lt; have O5 : Hid (Own w5 (w.heap.size + 1) v5 (f 4 ++ encR (-1) (pre A k) ++ lw)) := own5; clear own5 S1 O8 T3 B4 gr5)
          go_roundw
          case rel => exact ⟨k + 1, by omega, by go_num, by rw [Y.out.2.2], Y.out.1, by rw [Y.out.2.1, ← List.append_assoc]; exact O5.out, T5, B5⟩
          case measure => simp [intOf]; omega
        · obtain ⟨y1, y2⟩ := ERk.out hz
          have heq : (er == 0) = false := by simp [hz]
          subst y1 y2
          clear ERk YEk
          go_wp2_with fail
          go_ret2
          exact ⟨_, rfl, Own.nil _ _, B4⟩
      · obtain rfl : k = n := by omega
        obtain ⟨y1, y2⟩ := YE.out CH.out
        subst y1
        have Y2 : Hid (gb = f 4 ++ encR (-1) (pre A k)) := y2
        clear y2 ER YE
        go_wp2_with fail
        go_ret2
        exact ⟨_, rfl, by rw [Y2.out]; exact Q1.out.mono (Nat.le_succ _), q4⟩
  · obtain rfl : bk = t - b := HK.out.trans (if_neg hb)
    have hb2 : 0 ≤ b := by omega
    have P1 : Hid (Own v1w (w.heap.size + 1) _ (f 1)) := Q1.out.below bb1
    have D1 := bup C1 (Nat.le_refl _) bb1
    have E1 := A1.below bb1 A1.lt
    have d1 := D1.size
    have e1 := E1.lt
    clear Q1 C1 A1 bb1 c0 c1 c2 c3 ac
    have hq : Hid True := trivial
    go_wp2_with (at_builtin; refine app_wp rfl _ _ rfl (w.heap.size + 1) _ (f 1) rfl (by exact P1.out) _ (put zg) rfl (by exact own1.rd) (by omega) (by omega) ?_; intro u1 y1 ow1 by1; have C2 := D1.trans (by1.mono (Nat.le_succ _)); have A2 := E1.below by1 (Nat.lt_succ_self _); have Q2 : Hid (Own y1 (w.heap.size + 1) u1 (f 2)) := (by rw [K2.out]; exact ow1); have c0 := A2.cell 0 _ rfl; have c1 := A2.cell 1 _ rfl; have c2 := A2.cell 2 _ rfl; have c3 := A2.cell 3 _ rfl; have ac := A2.lt; clear P1 D1 d1 e1 E1 ow1 by1 own1)
    refine (rput_any (t - b) (by omega) (by omega) _).mono ?_; rintro e v2w ⟨v2, rfl, own2, bb2⟩
    have P2 : Hid (Own v2w (w.heap.size + 1) _ (f 2)) := Q2.out.below bb2
    have D2 := bup C2 (Nat.le_refl _) bb2
    have E2 := A2.below bb2 A2.lt
    have d2 := D2.size
    have e2 := E2.lt
    clear Q2 C2 A2 bb2 c0 c1 c2 c3 ac
    go_wp2_with (at_builtin; refine app_wp rfl _ _ rfl (w.heap.size + 1) _ (f 2) rfl (by exact P2.out) _ (put (t - b)) rfl (by exact own2.rd) (by omega) (by omega) ?_; intro u2 y2 ow2 by2; have C3 := D2.trans (by2.mono (Nat.le_succ _)); have A3 := E2.below by2 (Nat.lt_succ_self _); have Q3 : Hid (Own y2 (w.heap.size + 1) u2 (f 3)) := (by rw [K3.out]; exact ow2); have c0 := A3.cell 0 _ rfl; have c1 := A3.cell 1 _ rfl; have c2 := A3.cell 2 _ rfl; have c3 := A3.cell 3 _ rfl; have ac := A3.lt; clear P2 D2 d2 e2 E2 ow2 by2 own2)
    first | (have wn : IntKind.u64.wrap (n : Int) = n := by rw [u64_eq]; omega
             rw [wn]) | skip
    refine (rput_any (n : Int) (by omega) (by omega) _).mono ?_; rintro e v3w ⟨v3, rfl, own3, bb3⟩
    have P3 : Hid (Own v3w (w.heap.size + 1) _ (f 3)) := Q3.out.below bb3
    have D3 := bup C3 (Nat.le_refl _) bb3
    have E3 := A3.below bb3 A3.lt
    have d3 := D3.size
    have e3 := E3.lt
    clear Q3 C3 A3 bb3 c0 c1 c2 c3 ac
    go_wp2_with (at_builtin; refine app_wp rfl _ _ rfl (w.heap.size + 1) _ (f 3) rfl (by exact P3.out) _ (put (n : Int)) rfl (by exact own3.rd) (by omega) (by omega) ?_; intro u3 y3 ow3 by3; have C4 := D3.trans (by3.mono (Nat.le_succ _)); have A4 := E3.below by3 (Nat.lt_succ_self _); have Q4 : Hid (Own y3 (w.heap.size + 1) u3 (f 4)) := (by rw [K4.out]; exact ow3); have c0 := A4.cell 0 _ rfl; have c1 := A4.cell 1 _ rfl; have c2 := A4.cell 2 _ rfl; have c3 := A4.cell 3 _ rfl; have ac := A4.lt; clear P3 D3 d3 e3 E3 ow3 by3 own3)
    clear c0 c1 c2 c3 ac K0 K1 K2 K3 K4 HK HZ L0 L1 L2 L3 p1 p2 p3 p4
    go_loopw [7, 4, 6] (fun i bv lv wr => ∃ k : Nat, k ≤ n ∧ i = .int .i64 k ∧ lv = .int .i64 (lastR (-1) (pre A k)) ∧ chainR (-1) (pre A k) ∧ Own wr (w.heap.size + 1) bv (f 4 ++ encR (-1) (pre A k)) ∧ Blk wr w.heap.size (gmC ⟨t, m, b⟩ (.slice ao n cap)) ∧ Below w.heap.size w wr) (fun i _ _ _ => n - (intOf i).toNat)
    case atStart => exact ⟨0, by omega, rfl, rfl, trivial, by rw [pre_zero]; simpa [encR] using Q4.out, A4, C4⟩
    case round =>
      obtain ⟨k, hk, rfl, rfl, ch, q1, q3, q4⟩ := hrel
      have CO := chainR_ok _ _ ch
      have LB := lastR_bd _ _ ch (by omega) (by omega)
      rw [pre_len] at CO
      have LE : (f 4 ++ encR (-1) (pre A k)).length ≤ 8746 := by rw [List.length_append]; omega
      have CH : Hid (chainR (-1) (pre A k)) := ch
      have Q1 : Hid (Own wr (w.heap.size + 1) u4 (f 4 ++ encR (-1) (pre A k))) := q1
      have s1 := q4.size
      have x3' := q3.cell 3 _ rfl
      have s3' := q3.lt
      clear q1 ch CO
      by_cases hlt : k < n
      · obtain ⟨ao', cap', e, _, _, h3⟩ := HR.out
        injection e with e1 e2 e3
        subst e1 e3
        obtain ⟨b', o, rfl, hcell⟩ := h3.resolve_left (by omega)
        have okk := HA.out k hlt
        have ERk : Hid (wrE (A k) (lastR (-1) (pre A k)) ≠ 0 → ge = wrE (A k) (lastR (-1) (pre A k)) ∧ gb = []) := ER.out k hlt CH.out
        have YEk : Hid (wrE (A k) (lastR (-1) (pre A k)) = 0 → chainR (-1) (pre A (k + 1)) ∧ encR (-1) (pre A (k + 1)) = encR (-1) (pre A k) ++ wrB (A k) (lastR (-1) (pre A k)) ∧ lastR (-1) (pre A (k + 1)) = (A k).i ∧ wrB (A k) (lastR (-1) (pre A k)) ≠ []) := fun h =>
          ⟨by rw [pre_succ]; exact chainR_snoc _ _ _ CH.out okk h, by rw [pre_succ, encR_snoc], by rw [pre_succ, lastR_snoc], by unfold wrB; rw [if_pos h]; simp⟩
        obtain ⟨r, hr⟩ : ∃ r, A k = r := ⟨_, rfl⟩
        have cc : ∀ w', Below w.heap.size w w' → ∀ j x, (recC r)[j]? = some x → w'.cell? ⟨b', o + k * 9 + j, none⟩ = some x := fun w' q j x hx => by
          have c := hcell k hlt j x (by rw [hr]; exact hx)
          exact (q.cell (p := ⟨b', o + k * 9 + j, none⟩) (World.block_lt_of_cell? w _ c)).trans c
        rw [hr] at okk ERk YEk
        have x0 := cc _ q4 0 _ rfl
        have x1 := cc _ q4 1 _ rfl
        have x2 := cc _ q4 2 _ rfl
        have x3 := cc _ q4 3 _ rfl
        have x4 := cc _ q4 4 _ rfl
        have x5 := cc _ q4 5 _ rfl
        have x6 := cc _ q4 6 _ rfl
        have x7 := cc _ q4 7 _ rfl
        have x8 := cc _ q4 8 _ rfl
        have bl : b' < wr.heap.size := World.block_lt_of_cell? wr _ x0
        have OKR : Hid r.ok := okk
        have HCC : Hid (∀ w', Below w.heap.size w w' → w'.cell? ⟨b', o + k * 9 + 1, none⟩ = some (.int .i64 r.i)) := fun w' q => cc w' q 1 _ rfl
        simp only [Nat.add_zero] at x0
        clear cc hcell hr okk ER YE
        obtain ⟨lst, hlst⟩ : ∃ x, lastR (-1) (pre A k) = x := ⟨_, rfl⟩
        rw [hlst] at LB ERk YEk
        rw [hlst]
        clear hlst
        obtain ⟨lb0, lb1⟩ := LB
        obtain ⟨er, her⟩ : ∃ x, wrE r lst = x := ⟨_, rfl⟩
        obtain ⟨lw, hlw⟩ : ∃ x, wrB r lst = x := ⟨_, rfl⟩
        have HER : Hid (wrE r lst = er ∧ wrB r lst = lw) := ⟨her, hlw⟩
        have LW : lw.length ≤ 68 := by rw [← hlw]; exact wr_len OKR.out
        rw [her] at ERk YEk
        rw [hlw] at YEk
        clear her hlw
        go_wp2_with fail
        clear x0 x1 x2 x3 x4 x5 x6 x7 x8 bl x3'
        refine (doc_write _ r lst OKR.out (by unfold S64; omega)).mono ?_; rw [HER.out.1, HER.out.2]; rintro e w3 ⟨u8', rfl, own3, b3⟩
        have S1 : Hid (Own w3 (w.heap.size + 1) u4 (f 4 ++ encR (-1) (pre A k))) := Own.below Q1.out b3
        have O8 : Hid (Own w3 wr.heap.size u8' lw) := own3
        have T3 := q3.below b3 q3.lt
        have B4 := bup q4 (Nat.le_refl _) b3
        have s3 := B4.size
        have t3 := T3.lt
        clear Q1 own3 b3 q3 q4
        by_cases hz : er = 0
        · obtain ⟨y1, y2, y3, y4⟩ := YEk.out hz
          have Y : Hid (chainR (-1) (pre A (k + 1)) ∧ encR (-1) (pre A (k + 1)) = encR (-1) (pre A k) ++ lw ∧ lastR (-1) (pre A (k + 1)) = r.i) := ⟨y1, y2, y3⟩
          subst hz
          clear ERk YEk y1 y2 y3
          go_wp2_with (at_builtin; refine app_wp rfl _ _ rfl (w.heap.size + 1) _ (f 4 ++ encR (-1) (pre A k)) rfl (by exact S1.out) _ lw rfl (by exact O8.out.rd) (by omega) (by omega) ?_; intro v5 w5 own5 gr5; have T5 := T3.below gr5 (Nat.lt_succ_self _); have B5 := B4.trans (gr5.mono (Nat.le_succ _)); have z3 := T5.cell 3 _ rfl; have z1 := HCC.out _ B5; have zb : b' < w5.heap.size := World.block_lt_of_cell? w5 _ z1; have zl := T5.lt; have O5 : Hid (Own w5 (w.heap.size + 1) v5 (f 4 ++ encR (-1) (pre A k) ++ lw)) := own5; clear own5 S1 O8 T3 B4 gr5)
          go_roundw
          case rel => exact ⟨k + 1, by omega, by go_num, by rw [Y.out.2.2], Y.out.1, by rw [Y.out.2.1, ← List.append_assoc]; exact O5.out, T5, B5⟩
          case measure => simp [intOf]; omega
        · obtain ⟨y1, y2⟩ := ERk.out hz
          have heq : (er == 0) = false := by simp [hz]
          subst y1 y2
          clear ERk YEk
          go_wp2_with fail
          go_ret2
          exact ⟨_, rfl, Own.nil _ _, B4⟩
      · obtain rfl : k = n := by omega
        obtain ⟨y1, y2⟩ := YE.out CH.out
        subst y1
        have Y2 : Hid (gb = f 4 ++ encR (-1) (pre A k)) := y2
        clear y2 ER YE
        go_wp2_with fail
        go_ret2
        exact ⟨_, rfl, by rw [Y2.out]; exact Q1.out.mono (Nat.le_succ _), q4⟩

theorem dg_body (w : World) (g : Gm) (ok : g.ok) (v : Value) (n : Nat) (A : Nat → Rc) (hA : ∀ i, i < n → (A i).ok) (hv : RdR w v n A) :
    Calls Tryz.prog 97 #[gmV g v] w fun e w' => ∃ u, e = .returned (.tuple #[u, .int .i64 (gmE g A n)]) ∧ Own w' w.heap.size u (bodB g A n) ∧ Below w.heap.size w w' := by
  by_cases h : hedE g n = 0
  · exact dg_body_yes w g v n A hA hv h
  · exact dg_body_no w g ok v n A hv h
end Go.Proofs.YtlpdhglibgnkoaaGreat

namespace Go.Proofs.YtlpdhglibgnkoaaGreat
open Go.RowKit
set_option linter.unusedVariables false
set_option maxRecDepth 8000

theorem dg_checks (w : World) (g : Gm) (ok : g.ok) (v : Value) (n : Nat) (A : Nat → Rc) (hA : ∀ i, i < n → (A i).ok) (hv : RdR w v n A) :
    Calls Tryz.prog 62 #[gmV g v] w fun e w' => e = .returned (.int .i64 (gmE g A n)) ∧ Below w.heap.size w w' := by
  have HB : Hid (∀ w', Below w.heap.size w w' → Calls Tryz.prog 97 #[gmV g v] w' fun e w'' => ∃ u, e = .returned (.tuple #[u, .int .i64 (gmE g A n)]) ∧ Own w'' w'.heap.size u (bodB g A n) ∧ Below w'.heap.size w' w'') := fun w' h => dg_body w' g ok v n A hA (hv.below h)
  obtain ⟨ge, ege⟩ : ∃ x, gmE g A n = x := ⟨_, rfl⟩
  rw [ege] at HB
  rw [ege]
  clear ege hA ok
  obtain ⟨ao, cap, rfl, hc, hm, _⟩ := hv
  obtain ⟨t, m, b⟩ := g
  go_enter Tryz.func62, Tryz.ntmps62
  go_wp2_with fail
  generalize hW : w.alloc (.cells #[.int .i64 t, .int .i64 m, .int .i64 b, .slice ao n cap] 61) = W
  obtain ⟨A0, b0, _⟩ := boxed hW
  clear hW
  refine (HB.out _ b0).mono ?_; rintro e w1 ⟨u1, rfl, _, g1⟩
  have b1 := bup b0 (Nat.le_refl _) g1
  go_wp2_with fail
  go_ret
  exact ⟨rfl, b1⟩
/-! the example -/
abbrev exG : Gm := ⟨0, 0, -1⟩
abbrev exL : List Int := [71, 1, 0, 0, 0, 0]
theorem RdR.none (w : World) : RdR w (.slice .none 0 0) 0 (fun _ => noRec) := ⟨.none, 0, rfl, Nat.le_refl _, by omega, Or.inl rfl⟩
/-- Records that the call owns are read, by their places. -/
theorem OwnR.rdR {w : World} {B : Nat} {v : Value} {L : List Rc} (h : OwnR w B v L) : RdR w v L.length (fun i => L.getD i noRec) := by
  by_cases hl : L = []
  · subst hl
    rcases h.2 with ⟨e, _⟩ | ⟨g, cap, cur, hv, hb, hg, hc, hm, hs, ht⟩
    · subst e
      exact ⟨none, 0, rfl, Nat.le_refl _, by omega, Or.inl rfl⟩
    · subst hv
      exact ⟨_, cap, rfl, hc, hm, Or.inl rfl⟩
  · obtain ⟨g, cap, rfl, h1, h2, h3, h4, h5⟩ := h.cells hl
    exact ⟨_, cap, rfl, h3, h4, Or.inr ⟨g, 0, rfl, fun i hi j x hx => by simpa using h5 i hi j x hx⟩⟩
end Go.Proofs.YtlpdhglibgnkoaaGreat

namespace Go.Proofs.YtlpdhglibgnkoaaGreat
open Go.ChangeShapes Go.WideShapes Go.ChangeAt Go.RowKit Go.Joins
set_option linter.unusedVariables false
variable {H : Type} {enc : TypeId × Value → H}

end Go.Proofs.YtlpdhglibgnkoaaGreat

namespace Go.Proofs.YtlpdhglibgnkoaaGreat
open Go.RowKit
set_option linter.unusedVariables false

def sameS (c : Int) (s : St) : St := if byteA s = c then byteS s else failS (byteS s) 7
def timS (s : St) : St := if timB (intA s) = true then intS s else failS (intS s) 3
theorem lastB_of {x : Int} (h0 : -1 ≤ x) (h1 : x ≤ 65535) : lastB x = true := by unfold lastB; simp; omega
theorem red_e {s : St} {last : Int} (h : lastB last = true) : redE s last = (redS s last).e := by unfold redE redS; rw [if_pos h, if_pos h]
theorem uintA_le {m : Int} (h : 0 ≤ m) (s : St) : uintA m s ≤ m := by
  unfold uintA
  by_cases h0 : s.e = 0
  · rw [if_pos h0]
    by_cases h1 : uintE m s.l = 0
    · rw [if_pos h1]
      unfold uintE at h1
      split at h1
      · omega
      · split at h1
        · split at h1 <;> omega
        · omega
    · rw [if_neg h1]; exact h
  · rw [if_neg h0]; exact h

/-! records, one behind the other: how the reader stands, and those that were read -/
def rowS (s : St) : Nat → St × List Rc
  | 0 => (s, [])
  | k + 1 => if (rowS s k).1.e = 0 then (redS (rowS s k).1 (lastR (-1) (rowS s k).2), if redE (rowS s k).1 (lastR (-1) (rowS s k).2) = 0 then (rowS s k).2 ++ [redT (rowS s k).1 (lastR (-1) (rowS s k).2)] else (rowS s k).2) else rowS s k
theorem rowS_no {s : St} {k : Nat} (h : (rowS s k).1.e ≠ 0) : rowS s (k + 1) = rowS s k := by
  show (if _ then _ else _) = _
  rw [if_neg h]
theorem rowS_stuck {s : St} {k : Nat} (h : (rowS s k).1.e ≠ 0) : ∀ j, rowS s (k + j) = rowS s k
  | 0 => rfl
  | j + 1 => by
    have ih := rowS_stuck h j
    rw [← Nat.add_assoc, rowS_no (by rw [ih]; exact h), ih]
theorem rowS_one {s : St} {k : Nat} (h : (rowS s k).1.e = 0) : rowS s (k + 1) = (redS (rowS s k).1 (lastR (-1) (rowS s k).2), if redE (rowS s k).1 (lastR (-1) (rowS s k).2) = 0 then (rowS s k).2 ++ [redT (rowS s k).1 (lastR (-1) (rowS s k).2)] else (rowS s k).2) := by
  show (if _ then _ else _) = _
  rw [if_pos h]
theorem rowS_ok {s : St} (hb : Bytes s.l) : ∀ k, chainR (-1) (rowS s k).2 ∧ (rowS s k).2.length ≤ k ∧ ((rowS s k).1.e = 0 → (rowS s k).2.length = k ∧ Tk s (rowS s k).1 (encR (-1) (rowS s k).2))
  | 0 => ⟨trivial, Nat.le_refl _, fun h => ⟨rfl, Tk.refl h⟩⟩
  | k + 1 => by
    obtain ⟨h1, h2, h3⟩ := rowS_ok hb k
    by_cases he : (rowS s k).1.e = 0
    · rw [rowS_one he]
      obtain ⟨h4, h5⟩ := h3 he
      have lb := lastR_bd _ _ h1 (by omega) (by omega)
      by_cases hr : redE (rowS s k).1 (lastR (-1) (rowS s k).2) = 0
      · rw [if_pos hr]
        obtain ⟨o1, o2, o3⟩ := one_read (h5.bytes hb) hr
        refine ⟨chainR_snoc _ _ _ h1 o1 o2, by rw [List.length_append]; simp; omega, fun _ => ⟨by rw [List.length_append]; simp; omega, ?_⟩⟩
        simp only
        rw [encR_snoc]
        exact h5.trans o3
      · rw [if_neg hr]
        refine ⟨h1, by simp only; omega, fun h => absurd h ?_⟩
        simp only
        rw [← red_e (lastB_of lb.1 lb.2)]
        exact hr
    · rw [rowS_no he]
      exact ⟨h1, by omega, fun h => absurd h he⟩

/-! the whole -/
def rA (l : List Int) : St := sameS 1 (sameS 71 ⟨l, 0, 0⟩)
def rT (l : List Int) : Int := uintA 4294967295 (rA l)
def rB (l : List Int) : St := uintS 4294967295 (rA l)
def rM (l : List Int) : Int := intA (rB l)
def rC (l : List Int) : St := timS (rB l)
def rG (l : List Int) : Int := uintA (rT l) (rC l)
def rD (l : List Int) : St := uintS (rT l) (rC l)
def rP (l : List Int) : Int := if 0 < rG l then rT l - rG l else -1
def rN (l : List Int) : Int := uintA 128 (rD l)
def rQ (l : List Int) : St := uintS 128 (rD l)
def rF (l : List Int) : St × List Rc := rowS (rQ l) (rN l).toNat
def opE (l : List Int) : Int := doneA (rF l).1
def rgE (b : List Int) : Int := if 4096 < b.length then 8 else if openB b = true then opE (opened b) else 9
def rgG (b : List Int) : Gm := if rgE b = 0 then ⟨rT (opened b), rM (opened b), rP (opened b)⟩ else ⟨0, 0, 0⟩
def rgL (b : List Int) : List Rc := if rgE b = 0 then (rF (opened b)).2 else []
theorem rT_bd (l : List Int) : 0 ≤ rT l ∧ rT l ≤ 4294967295 := ⟨(uintA_bd _ _).1, uintA_le (by omega) _⟩
theorem rG_bd (l : List Int) : 0 ≤ rG l ∧ rG l ≤ rT l := ⟨(uintA_bd _ _).1, uintA_le (rT_bd l).1 _⟩
theorem rN_bd (l : List Int) : 0 ≤ rN l ∧ rN l ≤ 128 := ⟨(uintA_bd _ _).1, uintA_le (by omega) _⟩

theorem took_same {c : Int} {s : St} (hb : Bytes s.l) (h : (sameS c s).e = 0) : Tk s (sameS c s) [c] := by
  unfold sameS at h ⊢
  split at h
  · rename_i hc
    rw [if_pos hc]
    have t := took_byte hb h
    rw [hc] at t
    exact t
  · exact absurd h (fail_ne (by omega))
theorem stuck_same {c : Int} {s : St} (h : (sameS c s).e = 0) : s.e = 0 := by
  unfold sameS at h
  split at h
  · exact stuck_byte h
  · exact absurd h (fail_ne (by omega))
theorem took_tim {s : St} (hb : Bytes s.l) (h : (timS s).e = 0) : Tk s (timS s) (put (zig (intA s))) ∧ timB (intA s) = true := by
  unfold timS at h ⊢
  split at h
  · rename_i hc
    rw [if_pos hc]
    exact ⟨(took_int hb h).1, hc⟩
  · exact absurd h (fail_ne (by omega))
theorem done_ok {s : St} (h : doneA s = 0) : s.e = 0 ∧ s.l = [] := by
  unfold doneA at h
  split at h
  · rename_i he
    split at h
    · rename_i hl
      exact ⟨he, hl⟩
    · omega
  · rename_i he
    exact absurd h he

/-- A datagram that is read is written as those bytes. -/
theorem op_one {l : List Int} (hb : Bytes l) (h : opE l = 0) :
    l = hedB ⟨rT l, rM l, rP l⟩ (rF l).2.length ++ encR (-1) (rF l).2 ∧ hedE ⟨rT l, rM l, rP l⟩ (rF l).2.length = 0 ∧ chainR (-1) (rF l).2 := by
  obtain ⟨h1, h2⟩ := done_ok h
  have eF : rF l = rowS (rQ l) (rN l).toNat := rfl
  have nb := rN_bd l
  have tb := rT_bd l
  have gb := rG_bd l
  have key : ∃ (a : Tk (⟨l, 0, 0⟩ : St) (rQ l) ([71] ++ [1] ++ put (rT l) ++ put (zig (rM l)) ++ put (rG l) ++ put (rN l))), timB (rM l) = true := by
    -- from the end to the front, that nothing had failed
    have stuckRow : ∀ k, (rowS (rQ l) k).1.e = 0 → (rQ l).e = 0 := by
      intro k hk
      by_cases he : (rQ l).e = 0
      · exact he
      · have := rowS_stuck (s := rQ l) (k := 0) he k
        rw [Nat.zero_add] at this
        rw [this] at hk
        exact hk
    have hQ : (rQ l).e = 0 := stuckRow _ (by rw [← eF]; exact h1)
    have hD : (rD l).e = 0 := stuck_uint hQ
    have hC : (rC l).e = 0 := stuck_uint hD
    have hB : (rB l).e = 0 := by
      have hC' := hC
      unfold rC timS at hC'
      split at hC'
      · exact stuck_int hC'
      · exact absurd hC' (fail_ne (by omega))
    have hA : (rA l).e = 0 := stuck_uint hB
    have hA1 : (sameS 71 (⟨l, 0, 0⟩ : St)).e = 0 := stuck_same (c := 1) hA
    have t1 := took_same (c := 71) (s := ⟨l, 0, 0⟩) hb hA1
    have t2 : Tk _ (rA l) _ := took_same (t1.bytes hb) hA
    have t12 := t1.trans t2
    have t3 : Tk _ (rB l) _ := took_uint (t12.bytes hb) hB
    have t13 := t12.trans t3
    have t4 := took_tim (t13.bytes hb) hC
    have t14 : Tk _ (rC l) _ := t13.trans t4.1
    have t5 : Tk _ (rD l) _ := took_uint (t14.bytes hb) hD
    have t15 := t14.trans t5
    have t6 : Tk _ (rQ l) _ := took_uint (t15.bytes hb) hQ
    exact ⟨t15.trans t6, t4.2⟩
  obtain ⟨t, tm⟩ := key
  have ro := rowS_ok (t.bytes hb) (rN l).toNat
  rw [← eF] at ro
  obtain ⟨c1, c2, c3⟩ := ro
  obtain ⟨c4, c5⟩ := c3 h1
  have w := (t.trans c5).l
  rw [h2, List.append_nil] at w
  have eb : bkI ⟨rT l, rM l, rP l⟩ = rG l := by
    unfold bkI rP
    simp only
    split
    · split at * <;> omega
    · split at * <;> omega
  have en : ((rF l).2.length : Int) = rN l := by rw [c4]; omega
  refine ⟨?_, ?_, c1⟩
  · simp only at w
    unfold hedB
    rw [eb, en]
    exact w
  · unfold hedE
    simp only
    rw [tm]
    rw [if_neg (by unfold rP; split <;> simp <;> omega), if_neg (by unfold rP; split <;> omega), if_neg (by omega)]

/-! the other way about -/
theorem rowS_fwd (L : List Rc) (hc : chainR (-1) L) (rest : List Int) (m : Int) : ∀ k, k ≤ L.length → ∃ m', rowS ⟨encR (-1) L ++ rest, m, 0⟩ k = (⟨encR (lastR (-1) (L.take k)) (L.drop k) ++ rest, m', 0⟩, L.take k)
  | 0, _ => ⟨m, by simp [rowS, lastR]⟩
  | k + 1, h => by
    obtain ⟨m', e⟩ := rowS_fwd L hc rest m k (by omega)
    rw [rowS_one (by rw [e]), e]
    have d := drop_cons (L := L) (j := k) (by omega)
    have cd := chainR_drop L (-1) k hc
    have tk : L.take (k + 1) = L.take k ++ [L.getD k noRec] := by
      rw [List.take_add_one]
      congr 1
      have : k < L.length := by omega
      simp [List.getD, List.getElem?_eq_getElem this]
    have lt := lastR_take L (-1) k (by omega)
    rw [d] at cd
    obtain ⟨o1, o2, o3⟩ := cd
    have w := wr_read o1 o2 (encR (L.getD k noRec).i (L.drop (k + 1)) ++ rest) m'
    have eb : encR (lastR (-1) (L.take k)) (L.drop k) ++ rest = wrB (L.getD k noRec) (lastR (-1) (L.take k)) ++ (encR (L.getD k noRec).i (L.drop (k + 1)) ++ rest) := by
      rw [d, ← List.append_assoc]
      rfl
    simp only
    rw [eb, w.1, w.2.1, w.2.2, if_pos rfl, ← tk, lt]
    exact ⟨_, rfl⟩
theorem same_ok (c : Int) (r : List Int) (n : Int) : sameS c ⟨c :: r, n, 0⟩ = ⟨r, n + 1, 0⟩ := by
  have b := rd_byte (b := c) r n
  unfold sameS
  rw [if_pos b.1, b.2]
theorem op_fwd {g : Gm} {L : List Rc} (h : hedE g L.length = 0) (hc : chainR (-1) L) (rest : List Int) :
    ∃ m', rF (hedB g L.length ++ encR (-1) L ++ rest) = (⟨rest, m', 0⟩, L) ∧ rT (hedB g L.length ++ encR (-1) L ++ rest) = g.t ∧ rM (hedB g L.length ++ encR (-1) L ++ rest) = g.m ∧ rP (hedB g L.length ++ encR (-1) L ++ rest) = g.b := by
  have ho := hed_ok h
  have bk := bk_bd h
  obtain ⟨l, hl⟩ : ∃ l, hedB g L.length ++ encR (-1) L ++ rest = l := ⟨_, rfl⟩
  have e : l = 71 :: (1 :: (put g.t ++ (put (zig g.m) ++ (put (bkI g) ++ (put (L.length : Int) ++ (encR (-1) L ++ rest)))))) := by
    rw [← hl]; unfold hedB; simp
  rw [hl]
  have eA : ∃ n, rA l = ⟨put g.t ++ (put (zig g.m) ++ (put (bkI g) ++ (put (L.length : Int) ++ (encR (-1) L ++ rest)))), n, 0⟩ := by
    unfold rA
    rw [e, same_ok, same_ok]
    exact ⟨_, rfl⟩
  obtain ⟨n1, eA⟩ := eA
  have u1 := rd_uint (x := g.t) (m := 4294967295) (by omega) (by omega) (by omega) (put (zig g.m) ++ (put (bkI g) ++ (put (L.length : Int) ++ (encR (-1) L ++ rest)))) n1
  have eT : rT l = g.t := by unfold rT; rw [eA]; exact u1.1
  have eB : rB l = ⟨put (zig g.m) ++ (put (bkI g) ++ (put (L.length : Int) ++ (encR (-1) L ++ rest))), n1 + (put g.t).length, 0⟩ := by unfold rB; rw [eA]; exact u1.2
  have u2 := rd_int (x := g.m) (by unfold S64; omega) (put (bkI g) ++ (put (L.length : Int) ++ (encR (-1) L ++ rest))) (n1 + (put g.t).length)
  have eM : rM l = g.m := by unfold rM; rw [eB]; exact u2.1
  have eC : rC l = ⟨put (bkI g) ++ (put (L.length : Int) ++ (encR (-1) L ++ rest)), n1 + (put g.t).length + (put (zig g.m)).length, 0⟩ := by
    unfold rC timS
    rw [eB, if_pos (by rw [u2.1]; unfold timB; simp; omega)]
    exact u2.2
  have u3 := rd_uint (x := bkI g) (m := g.t) (by omega) (by omega) (by omega) (put (L.length : Int) ++ (encR (-1) L ++ rest)) (n1 + (put g.t).length + (put (zig g.m)).length)
  have eG : rG l = bkI g := by unfold rG; rw [eC, eT]; exact u3.1
  have eD : rD l = ⟨put (L.length : Int) ++ (encR (-1) L ++ rest), n1 + (put g.t).length + (put (zig g.m)).length + (put (bkI g)).length, 0⟩ := by unfold rD; rw [eC, eT]; exact u3.2
  have u4 := rd_uint (x := (L.length : Int)) (m := 128) (by omega) (by omega) (by omega) (encR (-1) L ++ rest) (n1 + (put g.t).length + (put (zig g.m)).length + (put (bkI g)).length)
  have eN : rN l = L.length := by unfold rN; rw [eD]; exact u4.1
  have eQ : rQ l = ⟨encR (-1) L ++ rest, n1 + (put g.t).length + (put (zig g.m)).length + (put (bkI g)).length + (put (L.length : Int)).length, 0⟩ := by unfold rQ; rw [eD]; exact u4.2
  obtain ⟨m', f⟩ := rowS_fwd L hc rest (n1 + (put g.t).length + (put (zig g.m)).length + (put (bkI g)).length + (put (L.length : Int)).length) L.length (Nat.le_refl _)
  refine ⟨m', ?_, eT, eM, ?_⟩
  · unfold rF
    rw [eN, Int.toNat_natCast, eQ, f]
    simp [encR]
  · unfold rP
    rw [eG, eT]
    unfold bkI
    split <;> split <;> omega
/-- What is written is read. -/
theorem op_back {g : Gm} {L : List Rc} (h : hedE g L.length = 0) (hc : chainR (-1) L) : opE (hedB g L.length ++ encR (-1) L) = 0 ∧ rT (hedB g L.length ++ encR (-1) L) = g.t ∧ rM (hedB g L.length ++ encR (-1) L) = g.m ∧ rP (hedB g L.length ++ encR (-1) L) = g.b ∧ (rF (hedB g L.length ++ encR (-1) L)).2 = L := by
  obtain ⟨m', e1, e2, e3, e4⟩ := op_fwd h hc []
  rw [List.append_nil] at e1 e2 e3 e4
  refine ⟨?_, e2, e3, e4, by rw [e1]⟩
  unfold opE
  rw [e1]
  rfl
theorem rgE_zero {b : List Int} (h : rgE b = 0) : b.length ≤ 4096 ∧ openB b = true ∧ opE (opened b) = 0 := by
  unfold rgE at h
  split at h
  · omega
  · split at h
    · rename_i h1 h2
      exact ⟨by omega, h2, h⟩
    · omega
theorem pre_getD (L : List Rc) : pre (fun i => L.getD i noRec) L.length = L := by
  apply List.ext_getElem
  · rw [pre_len]
  · intro i h1 h2
    unfold pre
    simp [List.getD, h2]
end Go.Proofs.YtlpdhglibgnkoaaGreat
