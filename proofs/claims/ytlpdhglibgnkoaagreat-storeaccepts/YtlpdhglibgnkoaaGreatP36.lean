/-
  Texts St26 in one.
-/
import Derived.Deep.RegionHeldLaw
import Derived.Deep.LoopGhost
import Derived.Test.YtlpdhglibgnkoaaGreatP35
namespace Go.Proofs.YtlpdhglibgnkoaaGreat
open Go.RowKit
set_option linter.unusedVariables false
set_option maxRecDepth 20000
set_option maxHeartbeats 8000000 in
theorem rf_accept (w : World) (K : Nat) (v : Value) (fl : Int) (s : Sto) (h : RefS w K v fl s) (hr : RiseT s.L) (hg : Gd s.L) (hle : s.L.length ≤ s.M) (hM : s.M ≤ 64) (vb : Value) (l : List Int) (hb : Bytes l) (hl : l.length ≤ 140737488355328) (hrd : Rd w vb l) :
    Calls Tryz.prog 20 #[.pointer (some ⟨K, 0, none⟩), vb] w fun e w' => e = .returned (.tuple #[.int .i64 (tkT s l), .int .i64 (tkE s l)]) ∧ ∃ v' fl', RefS w' K v' fl' ⟨s.M, tkL s l, s.N⟩ ∧ Ch K w w' := by
  have H0 : Hid (RefS w K v fl s) := h
  have HG : Hid (Gd s.L) := hg
  have HR : Hid (RiseT s.L) := hr
  have HLE : Hid (s.L.length ≤ s.M) := hle
  have HRD : Hid (Calls Tryz.prog 38 #[vb] w fun e w' => ∃ u, e = .returned (.tuple #[gmV (rgG l) u, .int .i64 (rgE l)]) ∧ OwnR w' w.heap.size u (rgL l) ∧ Below w.heap.size w w') := dg_read w vb l hb hrd hl
  have HE1 : Hid (rgE l ≠ 0 → tkE s l = rgE l) := tk_read
  have HE2 : Hid (rgE l = 0 → tkE s l = rfE s.M fl s.L (rgG l) (rgL l)) := tk_ref hb hr hg h.flo
  have HNO : Hid (tkE s l ≠ 0 → tkT s l = 0 ∧ tkL s l = s.L) := tk_none
  have HYE : Hid (tkE s l = 0 → tkT s l = (rgG l).t ∧ tkL s l = keepS s.M s.L (tkX s.L (rgG l) (rgL l))) := fun h => ⟨if_pos h, if_pos h⟩
  have HOK : Hid (rgE l = 0 → (rgG l).ok ∧ (∀ i, i < (rgL l).length → (atR (rgL l) i).ok) ∧ -1 ≤ (rgG l).b) := fun h => by
    obtain ⟨a, b, c, _⟩ := one_gram hb h
    obtain ⟨q1, q2, q3, q4, q5, _⟩ := hed_ok (gm_head c)
    exact ⟨a, b, q5⟩
  have hKl := h.blk.lt
  obtain ⟨Z, hz, htl⟩ := h.row
  obtain ⟨n, hn⟩ : ∃ n, s.L.length = n := ⟨_, rfl⟩
  have HN : Hid (s.L.length = n) := hn
  have hzl : Z.length = n := htl.len.trans hn
  obtain ⟨ao, cap, rfl, h1, h2, w3, w4, w5⟩ := hz
  rw [hzl] at h1
  have c0 := h.blk.cell 0 _ rfl
  have c1 := h.blk.cell 1 _ rfl
  have c2 := h.blk.cell 2 _ rfl
  rw [hzl] at c0
  obtain ⟨M, hMe⟩ : ∃ M, s.M = M := ⟨_, rfl⟩
  have HM : Hid (s.M = M) := hMe
  rw [hMe] at c1 hM hle
  rw [hn] at hle
  have HC : Hid (∀ q (hq : q < Z.length), ∃ b o, ao = some ⟨b, o, none⟩ ∧ b < w.heap.size ∧ w.cell? ⟨b, o + q * 3, none⟩ = some (.int .i64 (atS s.L q).t) ∧ w.cell? ⟨b, o + q * 3 + 1, none⟩ = some (.int .i64 (atS s.L q).m) ∧ w.cell? ⟨b, o + q * 3 + 2, none⟩ = some Z[q].2.2 ∧ OwnE w (K + 1) Z[q].2.2 (atS s.L q).E) := fun q hq => by
    obtain ⟨t1, t2, t3⟩ := htl.at q hq
    cases hao : ao with
    | none => have := w3 hao; omega
    | some a =>
      obtain ⟨b, o, rfl, hB, cur, hcur⟩ := w4 a hao
      obtain ⟨d0, d1, d2⟩ := snC_at hq
      rw [t1] at d0
      rw [t2] at d1
      refine ⟨b, o, rfl, (Array.getElem?_eq_some_iff.1 hcur).1, w5 b o hao _ _ d0, ?_, ?_, t3⟩
      · have := w5 b o hao _ _ d1; rw [← Nat.add_assoc] at this; exact this
      · have := w5 b o hao _ _ d2; rw [← Nat.add_assoc] at this; exact this
  have HZL : Hid (Z.length = n) := hzl
  have HW3 : Hid (ao = none → cap = 0) := w3
  have HTL : Hid (TelS w (K + 1) Z s.L) := htl
  have HW4 : Hid _ := w4
  have HW5 : Hid _ := w5
  obtain ⟨E, hE⟩ : ∃ x, rgE l = x := ⟨_, rfl⟩
  obtain ⟨G, hGe⟩ : ∃ x, rgG l = x := ⟨_, rfl⟩
  obtain ⟨R, hRe⟩ : ∃ x, rgL l = x := ⟨_, rfl⟩
  rw [hE] at HRD HE1 HE2 HOK
  rw [hGe] at HRD HE2 HYE HOK
  rw [hRe] at HRD HE2 HYE HOK
  obtain ⟨H, hH⟩ : ∃ H, w.heap.size = H := ⟨_, rfl⟩
  rw [hH] at HRD hKl HC
  rw [hzl] at H0
  have HRET : Hid (∀ w', Below H w w' → tkE s l ≠ 0 → tkT s l = 0 ∧ ∃ v' fl', RefS w' K v' fl' ⟨s.M, tkL s l, s.N⟩ ∧ Ch K w w') := fun w' hb' h0 => by
    obtain ⟨q1, q2⟩ := HNO.out h0
    refine ⟨q1, .slice ao n cap, fl, ?_, Ch.of (by rw [hH]; exact hb') (by rw [hH]; exact Nat.le_of_lt hKl)⟩
    rw [q2]
    exact H0.out.below (by rw [hH]; exact hb')
  clear h hg hr hb hrd hl hE hGe hRe hn hMe w3 w4 w5 htl hzl HNO
  go_enter Tryz.func20, Tryz.ntmps20
  go_wp2_with fail
  refine (HRD.out).mono ?_; rintro e w1 ⟨u1, rfl, r1, b1⟩
  have R1 : Hid (OwnR w1 H u1 R) := r1
  have B1 : Hid (Below H w w1) := b1
  obtain ⟨a1, c1_1, rfl⟩ := r1.form
  clear r1 b1 HRD
  by_cases hE0 : E = 0
  · subst hE0
    have OK := HOK.out rfl
    have HF : Hid (tkE s l = rfE s.M fl s.L G R) := HE2.out rfl
    have HOk : Hid _ := OK
    clear HE1 HE2 HOK OK
    obtain ⟨T, hT⟩ : ∃ T, w1.heap.size = T := ⟨_, rfl⟩
    have hHT : H ≤ T := by have := B1.out.size; omega
    go_upto_block 0 with fail
    obtain ⟨W2, hW2⟩ : ∃ W, w1.alloc (.cells #[.int .i64 G.t, .int .i64 G.m, .int .i64 G.b, .slice a1 R.length c1_1] 61) = W := ⟨_, rfl⟩
    obtain ⟨x2, b2, z2⟩ := boxed hW2
    rw [hT] at x2 b2 z2
    have X2 : Hid (Blk W2 T [.int .i64 G.t, .int .i64 G.m, .int .i64 G.b, .slice a1 R.length c1_1]) := x2
    have B2 : Hid (Below H w W2) := B1.out.trans (b2.mono hHT)
    have R2 : Hid (OwnR W2 H (.slice a1 R.length c1_1) R) := R1.out.below (by rw [hT]; exact b2)
    rw [hW2]
    clear x2 b2 R1 B1 hW2 hT
    go_cut [8] (fun i wx => ∃ (q : Nat), q ≤ n ∧ i = .int .i64 q ∧ Hid (∀ t, t < q → (atS s.L t).t < G.t) ∧ Hid (q < n → G.t ≤ (atS s.L q).t) ∧ Below W2.heap.size W2 wx)
    case first =>
      as_aux_lemma =>
        go_wp2_with fail
        go_loopg [8] n (fun g i wr => ∃ (q : Nat), q + g = n ∧ i = .int .i64 q ∧ Hid (∀ t, t < q → (atS s.L t).t < G.t) ∧ Below W2.heap.size W2 wr)
        case atStart => exact ⟨0, by omega, rfl, (fun t ht => absurd ht (Nat.not_lt_zero t) : ∀ t, t < 0 → (atS s.L t).t < G.t), Below.refl _ _⟩
        case round =>
          as_aux_lemma =>
            obtain ⟨q, hq, rfl, HQ, hbl⟩ := hrel
            have HB : Hid (Below W2.heap.size W2 wr) := hbl
            have k0 := ((B2.out.trans (hbl.mono (by omega))).cell (p := ⟨K, 0, none⟩) hKl).trans c0
            have t0 := (X2.out.below hbl X2.out.lt).cell 0 _ rfl
            by_cases hlt : q < n
            · obtain ⟨b, o, rfl, hbH, hc, -⟩ := HC.out q (by rw [HZL.out]; exact hlt)
              obtain ⟨y, hy⟩ : ∃ y, (atS s.L q).t = y := ⟨_, rfl⟩
              have HY : Hid ((atS s.L q).t = y) := hy
              rw [hy] at hc
              have r0 := ((B2.out.trans (hbl.mono (by omega))).cell (p := ⟨b, o + q * 3, none⟩) hbH).trans hc
              clear hy HC hc hbl
              by_cases hyk : y < G.t
              · have d1 : decide (y < G.t) = true := by simpa using hyk
                have HQ2 : Hid (∀ t, t < q + 1 → (atS s.L t).t < G.t) := fun t ht => by
                  rcases Nat.lt_or_ge t q with h | h
                  · exact HQ.out t h
                  · obtain rfl : t = q := by omega
                    rw [HY.out]; exact hyk
                go_upto_region 5 with fail
                go_quiet (fail)
                go_wp2_with fail
                go_roundg (gk - 1)
                case measure => omega
                case rel => exact ⟨q + 1, by omega, by go_num, HQ2, below_drewN HB.out _⟩
              · have d1 : decide (y < G.t) = false := by simpa using hyk
                go_upto_region 5 with fail
                go_quiet (fail)
                go_wp2_with fail
                go_meet
                exact ⟨q, by omega, rfl, HQ, (fun _ => by rw [HY.out]; omega : q < n → G.t ≤ (atS s.L q).t), below_drewN HB.out _⟩
            · obtain rfl : q = n := by omega
              clear HC
              go_upto_region 5 with fail
              go_quiet (fail)
              go_wp2_with fail
              go_meet
              exact ⟨q, by omega, rfl, HQ, (fun h => absurd h hlt : q < q → G.t ≤ (atS s.L q).t), below_drewN HB.out _⟩
    case rest =>
      obtain ⟨q, hqn, rfl, HQ1, HQ2, hbl⟩ := hcut
      have HLO : Hid (lowS s.L G.t = q) := low_eq HR.out (by rw [HN.out]; exact hqn) HQ1.out (by rw [HN.out]; exact HQ2.out)
      have HIS : Hid (isS s.L G.t = true ↔ q < n ∧ (atS s.L q).t = G.t) := by
        have := low_is HR.out G.t
        rw [HLO.out, HN.out] at this
        exact this
      have BC : Hid (Below W2.heap.size W2 wc) := hbl
      clear HQ1 HQ2
      go_upto_region 7 with fail
      go_cut [64] (fun b wx => b = .bool (isS s.L G.t) ∧ Below W2.heap.size W2 wx)
      case first =>
        as_aux_lemma =>
          have k0 := ((B2.out.trans (hbl.mono (by omega))).cell (p := ⟨K, 0, none⟩) hKl).trans c0
          have t0 := (X2.out.below hbl X2.out.lt).cell 0 _ rfl
          by_cases hlt : q < n
          · obtain ⟨b, o, rfl, hbH, hc, -⟩ := HC.out q (by rw [HZL.out]; exact hlt)
            obtain ⟨y, hy⟩ : ∃ y, (atS s.L q).t = y := ⟨_, rfl⟩
            rw [hy] at hc HIS
            have r0 := ((B2.out.trans (hbl.mono (by omega))).cell (p := ⟨b, o + q * 3, none⟩) hbH).trans hc
            clear hy HC hc hbl
            by_cases hyk : y = G.t
            · have e : Hid (isS s.L G.t = true) := HIS.out.2 ⟨hlt, hyk⟩
              clear HIS
              subst hyk
              go_quiet (fail)
              go_wp2_with fail
              go_meet
              exact ⟨by rw [e.out], below_drewN BC.out _⟩
            · have e : Hid (isS s.L G.t = false) := by
                show isS s.L G.t = false
                cases h : isS s.L G.t with
                | false => rfl
                | true => exact absurd (HIS.out.1 h).2 hyk
              have d1 : (y == G.t) = false := by simpa using hyk
              have d2 : decide (y = G.t) = false := by simpa using hyk
              clear HIS
              go_quiet (fail)
              go_wp2_with fail
              go_meet
              exact ⟨by rw [e.out], below_drewN BC.out _⟩
          · have e : Hid (isS s.L G.t = false) := by
              show isS s.L G.t = false
              cases h : isS s.L G.t with
              | false => rfl
              | true => exact absurd (HIS.out.1 h).1 hlt
            have d1 : decide ((q : Int) < (n : Int)) = false := by simp; omega
            have d2 : decide (q < n) = false := by simp; omega
            clear HIS HC
            go_quiet (fail)
            go_wp2_with fail
            go_meet
            exact ⟨by rw [e.out], below_drewN BC.out _⟩
      case rest =>
        clear hbl BC HIS
        obtain ⟨rfl, hbl⟩ := hcut
        have BC : Hid (Below W2.heap.size W2 wc) := hbl
        have BH : Hid (Below H w wc) := B2.out.trans (hbl.mono (by omega))
        clear hbl
        by_cases his : isS s.L G.t = true
        · have HEE : Hid (tkE s l = 12) := by show tkE s l = 12; rw [HF.out]; exact rfE_12 HR.out his
          rw [his]
          clear his HC
          go_wp2_with fail
          go_ret2
          obtain ⟨q1, q2⟩ := HRET.out _ BH.out (by rw [HEE.out]; decide)
          rw [q1, HEE.out]
          exact ⟨rfl, q2⟩
        have his' : isS s.L G.t = false := by simpa using his
        have HIS : Hid (isS s.L G.t = false) := his'
        rw [his']
        clear his his'
        go_upto_region 9 with fail
        go_cut [87] (fun b wx => b = .bool (decide (G.t ≤ fl ∨ (q = 0 ∧ n = M))) ∧ Below W2.heap.size W2 wx)
        case first =>
          as_aux_lemma =>
            have k0 := (BH.out.cell (p := ⟨K, 0, none⟩) hKl).trans c0
            have k1 := (BH.out.cell (p := ⟨K, 1, none⟩) hKl).trans c1
            have k2 := (BH.out.cell (p := ⟨K, 2, none⟩) hKl).trans c2
            have t0 := (X2.out.below BC.out X2.out.lt).cell 0 _ rfl
            clear HC
            by_cases hf : G.t ≤ fl
            · have d1 : decide (G.t ≤ fl) = true := by simpa using hf
              have e : decide (G.t ≤ fl ∨ (q = 0 ∧ n = M)) = true := by simp [hf]
              go_quiet (fail)
              go_wp2_with fail
              go_meet
              exact ⟨by rw [e], below_drewN BC.out _⟩
            · have d1 : decide (G.t ≤ fl) = false := by simpa using hf
              by_cases hq0 : q = 0
              · subst hq0
                by_cases hnm : n = M
                · subst hnm
                  have e : decide (G.t ≤ fl ∨ (0 = 0 ∧ n = n)) = true := by simp
                  go_quiet (fail)
                  go_wp2_with fail
                  go_meet
                  exact ⟨by rw [e], below_drewN BC.out _⟩
                · have d2 : decide ((n : Int) = (M : Int)) = false := by simp; omega
                  have d3 : ((n : Int) == (M : Int)) = false := by simp; omega
                  have e : decide (G.t ≤ fl ∨ (0 = 0 ∧ n = M)) = false := by simp [hf, hnm]
                  go_quiet (fail)
                  go_wp2_with fail
                  go_meet
                  exact ⟨by rw [e], below_drewN BC.out _⟩
              · have d2 : decide ((q : Int) = 0) = false := by simp; omega
                have d3 : ((q : Int) == 0) = false := by simp; omega
                have d4 : decide (q = 0) = false := by simpa using hq0
                have e : decide (G.t ≤ fl ∨ (q = 0 ∧ n = M)) = false := by simp [hf, hq0]
                go_quiet (fail)
                go_wp2_with fail
                go_meet
                exact ⟨by rw [e], below_drewN BC.out _⟩
        case rest =>
          clear BC BH
          obtain ⟨rfl, hbl⟩ := hcut
          have BC : Hid (Below W2.heap.size W2 wc) := hbl
          have BH : Hid (Below H w wc) := B2.out.trans (hbl.mono (by omega))
          have hsz2 : T + 1 ≤ wc.heap.size := by have := hbl.size; omega
          clear hbl
          by_cases h13 : G.t ≤ fl ∨ (q = 0 ∧ n = M)
          · have HEE : Hid (tkE s l = 13) := by show tkE s l = 13; rw [HF.out]; exact rfE_13 HR.out HIS.out (by rw [HLO.out, HN.out, HM.out]; exact h13)
            rw [decide_eq_true h13]
            clear h13 HC
            go_wp2_with fail
            go_ret2
            obtain ⟨q1, q2⟩ := HRET.out _ BH.out (by rw [HEE.out]; decide)
            rw [q1, HEE.out]
            exact ⟨rfl, q2⟩
          have H13 : Hid (¬ (G.t ≤ fl ∨ (q = 0 ∧ n = M))) := h13
          rw [decide_eq_false h13]
          clear h13
          have XT : Hid (Blk wc T [.int .i64 G.t, .int .i64 G.m, .int .i64 G.b, .slice a1 R.length c1_1]) := X2.out.below BC.out X2.out.lt
          have RC : Hid (OwnR wc H (.slice a1 R.length c1_1) R) := R2.out.below BC.out
          have t2 := XT.out.cell 2 _ rfl
          obtain ⟨Bk, hBk⟩ : ∃ Bk, wc.heap.size = Bk := ⟨_, rfl⟩
          have hHB : H ≤ Bk := by omega
          have hTB : T < Bk := by omega
          clear X2 R2 BC hsz2
          obtain ⟨wb, rfl⟩ : ∃ x, x = wc := ⟨_, rfl⟩
          go_upto_block 2 with fail
          obtain ⟨W5, hW5⟩ : ∃ W, wb.alloc (.cells #[.int .i64 0, .int .i64 0, .slice none 0 0] 45) = W := ⟨_, rfl⟩
          obtain ⟨x5, b5, z5⟩ := boxed hW5
          rw [hBk] at x5 b5 z5
          have X5 : Hid (Blk W5 Bk [.int .i64 0, .int .i64 0, .slice none 0 0]) := x5
          have B5 : Hid (Below Bk wb W5) := b5
          rw [hW5]
          clear x5 b5 z5 t2
          go_cut [10] (fun th wx => th = .bool (thK s.L G.b n) ∧ ∃ u, Blk wx Bk [.int .i64 (bsK s.L G.b n).t, .int .i64 (bsK s.L G.b n).m, u] ∧ OwnE wx (K + 1) u (bsK s.L G.b n).E ∧ Below Bk wb wx)
          case first =>
            as_aux_lemma =>
              go_wp2_with fail
              go_loopg [10, 11] n (fun g th i wr => ∃ k, k + g = n ∧ i = .int .i64 (k : Nat) ∧ th = .bool (thK s.L G.b k) ∧ ∃ u, Blk wr Bk [.int .i64 (bsK s.L G.b k).t, .int .i64 (bsK s.L G.b k).m, u] ∧ OwnE wr (K + 1) u (bsK s.L G.b k).E ∧ Below Bk wb wr)
              case atStart => exact ⟨0, by omega, rfl, rfl, _, X5.out, OwnE.nil _ _, B5.out⟩
              case round =>
                as_aux_lemma =>
                  clear X5 B5
                  obtain ⟨k, hk, rfl, rfl, u, hx, ho, hbl⟩ := hrel
                  have k0 := ((BH.out.trans (hbl.mono hHB)).cell (p := ⟨K, 0, none⟩) hKl).trans c0
                  have t2 := ((XT.out.below hbl hTB).cell 2 _ rfl)
                  have HX : Hid (Blk wr Bk [.int .i64 (bsK s.L G.b k).t, .int .i64 (bsK s.L G.b k).m, u]) := hx
                  have HO : Hid (OwnE wr (K + 1) u (bsK s.L G.b k).E) := ho
                  have HBL : Hid (Below Bk wb wr) := hbl
                  by_cases hlt : k < n
                  · obtain ⟨b, o, rfl, hbH, hc, hc1, hc2, hoz⟩ := HC.out k (by rw [HZL.out]; exact hlt)
                    have HS1 : Hid (bsK s.L G.b (k + 1) = if (atS s.L k).t = G.b then atS s.L k else bsK s.L G.b k) := rfl
                    have HS2 : Hid (thK s.L G.b (k + 1) = if (atS s.L k).t = G.b then true else thK s.L G.b k) := rfl
                    have r0 := ((BH.out.trans (hbl.mono hHB)).cell (p := ⟨b, o + k * 3, none⟩) hbH).trans hc
                    have r1 := ((BH.out.trans (hbl.mono hHB)).cell (p := ⟨b, o + k * 3 + 1, none⟩) hbH).trans hc1
                    have r2 := ((BH.out.trans (hbl.mono hHB)).cell (p := ⟨b, o + k * 3 + 2, none⟩) hbH).trans hc2
                    obtain ⟨zu, hzu⟩ : ∃ x, (Z[k]'(by rw [HZL.out]; exact hlt)).2.2 = x := ⟨_, rfl⟩
                    rw [hzu] at hoz r2
                    obtain ⟨ao2, cp2, hz2⟩ := hoz.form
                    rw [hz2] at hoz r2
                    obtain ⟨nz, hnz⟩ : ∃ x, (atS s.L k).E.length = x := ⟨_, rfl⟩
                    rw [hnz] at hoz r2
                    have HOZ : Hid (OwnE w (K + 1) (.slice ao2 nz cp2) (atS s.L k).E) := hoz
                    obtain ⟨x, hx⟩ : ∃ x, atS s.L k = x := ⟨_, rfl⟩
                    rw [hx] at HS1 HS2 HOZ r0 r1
                    obtain ⟨th, hth⟩ : ∃ x, thK s.L G.b k = x := ⟨_, rfl⟩
                    rw [hth] at HS2
                    rw [hth]
                    have hx0 := HX.out.cell 0 _ rfl
                    have hx1 := HX.out.cell 1 _ rfl
                    have hx2 := HX.out.cell 2 _ rfl
                    have f0 := HX.out.froz 0
                    have f1 := HX.out.froz 1
                    have f2 := HX.out.froz 2
                    clear HC hc hc1 hc2 hzu hz2 hnz hth hbl ho hoz
                    by_cases hyk : x.t = G.b
                    · have d1 : (x.t == G.b) = true := by simpa using hyk
                      rw [if_pos hyk] at HS1 HS2
                      go_upto_region 16 with fail
                      go_quiet (fail)
                      obtain ⟨wq, hwq⟩ : ∃ wq, wr.drewN nq = wq := ⟨_, rfl⟩
                      have XQ : Hid (Blk wq Bk [.int .i64 (bsK s.L G.b k).t, .int .i64 (bsK s.L G.b k).m, u]) := by show Blk wq Bk _; rw [← hwq]; exact HX.out.drewN _
                      have BQ : Hid (Below Bk wb wq) := by show Below Bk wb wq; rw [← hwq]; exact below_drewN HBL.out _
                      have y0 : wq.cell? ⟨b, o + k * 3, none⟩ = some (.int .i64 x.t) := by rw [← hwq]; exact r0
                      have y1 : wq.cell? ⟨b, o + k * 3 + 1, none⟩ = some (.int .i64 x.m) := by rw [← hwq]; exact r1
                      have y2 : wq.cell? ⟨b, o + k * 3 + 2, none⟩ = some (.slice ao2 nz cp2) := by rw [← hwq]; exact r2
                      have yk : wq.cell? ⟨K, 0, none⟩ = some (.slice (some ⟨b, o, none⟩) n cap) := by rw [← hwq]; exact k0
                      have HYK : Hid (x.t = G.b) := hyk
                      rw [hyk] at y0
                      clear hyk d1
                      rw [hwq]
                      have hx0 := XQ.out.cell 0 _ rfl
                      have hx1 := XQ.out.cell 1 _ rfl
                      have hx2 := XQ.out.cell 2 _ rfl
                      have f0 := XQ.out.froz 0
                      have f1 := XQ.out.froz 1
                      have f2 := XQ.out.froz 2
                      clear r0 r1 r2 k0 t2 hwq HX HO HBL
                      obtain ⟨wz, hwz⟩ : ∃ wz, ((wq.setCell ⟨Bk, 0, none⟩ (.int .i64 G.b)).setCell ⟨Bk, 1, none⟩ (.int .i64 x.m)).setCell ⟨Bk, 2, none⟩ (.slice ao2 nz cp2) = wz := ⟨_, rfl⟩
                      have XZ : Hid (Blk wz Bk [.int .i64 x.t, .int .i64 x.m, .slice ao2 nz cp2]) := by show Blk wz Bk _; rw [← hwz, HYK.out]; exact XQ.out.three (o := 0) _ _ _ (by simp)
                      have BZ : Hid (Below Bk wb wz) := by show Below Bk wb wz; rw [← hwz]; exact ((BQ.out.setCell (p := ⟨Bk, 0, none⟩) (Nat.le_refl _) _).setCell (p := ⟨Bk, 1, none⟩) (Nat.le_refl _) _).setCell (p := ⟨Bk, 2, none⟩) (Nat.le_refl _) _
                      go_wp2_with fail
                      go_roundg (gk - 1)
                      case measure => omega
                      case rel => exact ⟨k + 1, by omega, by go_num, by rw [HS2.out], _, by rw [HS1.out]; exact XZ.out, by rw [HS1.out]; exact HOZ.out.below (by rw [hH]; exact BH.out.trans (BZ.out.mono hHB)), BZ.out⟩
                    · have d1 : (x.t == G.b) = false := by simpa using hyk
                      have d2 : decide (x.t = G.b) = false := by simpa using hyk
                      rw [if_neg hyk] at HS1 HS2
                      go_upto_region 16 with fail
                      go_quiet (fail)
                      go_wp2_with fail
                      go_roundg (gk - 1)
                      case measure => omega
                      case rel => exact ⟨k + 1, by omega, by go_num, by rw [HS2.out], u, by rw [HS1.out]; exact HX.out.drewN _, by rw [HS1.out]; exact HO.out.below (below_drewN (Below.refl _ _) _), below_drewN HBL.out _⟩
                  · obtain rfl : k = n := by omega
                    clear HC
                    go_wp2_with fail
                    go_meet
                    exact ⟨rfl, u, HX.out, HO.out, HBL.out⟩
          case rest =>
            obtain ⟨rfl, u, hx, ho, hbl⟩ := hcut
            obtain ⟨ba, bt⟩ := bs_all HR.out HG.out HOk.out.2.2
            rw [HN.out] at ba bt
            rw [ba] at hx ho
            by_cases h14 : G.b < 0 ∨ isS s.L G.b = true
            · rw [bt.2 h14]
              have H14 : Hid _ := h14
              obtain ⟨ao3, cp3, rfl⟩ := ho.form
              have HX : Hid (Blk wc Bk [.int .i64 (tkB s.L G.b).t, .int .i64 (tkB s.L G.b).m, .slice ao3 (tkB s.L G.b).E.length cp3]) := hx
              have HO : Hid (OwnE wc (K + 1) (.slice ao3 (tkB s.L G.b).E.length cp3) (tkB s.L G.b).E) := ho
              clear ba bt h14 hx ho X5 B5 hW5
              have BW : Hid (Below H w wc) := BH.out.trans (hbl.mono hHB)
              have XTc : Hid (Blk wc T [.int .i64 G.t, .int .i64 G.m, .int .i64 G.b, .slice a1 R.length c1_1]) := XT.out.below hbl hTB
              have RCc : Hid (OwnR wc H (.slice a1 R.length c1_1) R) := RC.out.below (by rw [hBk]; exact hbl)
              have hda := da_apply wc (tkB s.L G.b).t (tkB s.L G.b).m (.slice ao3 (tkB s.L G.b).E.length cp3) (tkB s.L G.b).E.length (atE (tkB s.L G.b).E) HO.out.atE G HOk.out.1 (.slice a1 R.length c1_1) R.length (atR R) HOk.out.2.1 RCc.out.rdR
              rw [pre_atE] at hda
              have HAT : Hid (tkA s.L G R = 0 → apT (tkB s.L G.b).t (tkB s.L G.b).m (tkB s.L G.b).E G (atR R) R.length = G.t ∧ apM (tkB s.L G.b).t (tkB s.L G.b).m (tkB s.L G.b).E G (atR R) R.length = G.m) := fun h => ⟨if_pos h, if_pos h⟩
              have hxE : aplL (tkB s.L G.b).t (tkB s.L G.b).m (tkB s.L G.b).E G (atR R) R.length = (tkX s.L G R).E := rfl
              have hxA : aplE (tkB s.L G.b).t (tkB s.L G.b).m (tkB s.L G.b).E G (atR R) R.length = tkA s.L G R := rfl
              rw [hxE, hxA] at hda
              obtain ⟨ta, hta⟩ : ∃ x, apT (tkB s.L G.b).t (tkB s.L G.b).m (tkB s.L G.b).E G (atR R) R.length = x := ⟨_, rfl⟩
              obtain ⟨tm, htm⟩ : ∃ x, apM (tkB s.L G.b).t (tkB s.L G.b).m (tkB s.L G.b).E G (atR R) R.length = x := ⟨_, rfl⟩
              obtain ⟨A, hA⟩ : ∃ x, tkA s.L G R = x := ⟨_, rfl⟩
              have HA : Hid (tkA s.L G R = A) := hA
              rw [hta, htm, hA] at hda
              rw [hta, htm, hA] at HAT
              obtain ⟨XE, hXE⟩ : ∃ x, (tkX s.L G R).E = x := ⟨_, rfl⟩
              have HXE : Hid ((tkX s.L G R).E = XE) := hXE
              rw [hXE] at hda
              obtain ⟨bt, hbt⟩ : ∃ x, (tkB s.L G.b).t = x := ⟨_, rfl⟩
              obtain ⟨bm, hbm⟩ : ∃ x, (tkB s.L G.b).m = x := ⟨_, rfl⟩
              obtain ⟨bn, hbn⟩ : ∃ x, (tkB s.L G.b).E.length = x := ⟨_, rfl⟩
              rw [hbt, hbm, hbn] at hda HX
              have HDA : Hid (Calls Tryz.prog 39 #[snV bt bm (.slice ao3 bn cp3), gmV G (.slice a1 R.length c1_1)] wc fun e w' => ∃ u, e = .returned (.tuple #[snV ta tm u, .int .i64 A]) ∧ OwnE w' wc.heap.size u XE ∧ Below wc.heap.size wc w') := hda
              clear hda hxE hxA hta htm hA hXE hbt hbm hbn HO hbl XT RC
              have b0 := HX.out.cell 0 _ rfl
              have b1 := HX.out.cell 1 _ rfl
              have b2 := HX.out.cell 2 _ rfl
              have t0 := XTc.out.cell 0 _ rfl
              have t1 := XTc.out.cell 1 _ rfl
              have t2 := XTc.out.cell 2 _ rfl
              have t3 := XTc.out.cell 3 _ rfl
              go_wp2_with fail
              refine (HDA.out).mono ?_; rintro e w7 ⟨u7, rfl, o7, b7⟩
              obtain ⟨a7, c7, rfl⟩ := o7.form
              obtain ⟨n7, hn7⟩ : ∃ x, XE.length = x := ⟨_, rfl⟩
              rw [hn7] at o7
              rw [hn7]
              obtain ⟨XB, hXB⟩ : ∃ x, w7.heap.size = x := ⟨_, rfl⟩
              have hcH : H ≤ wc.heap.size := by have := BW.out.size; omega
              have B7 : Hid (Below H w w7) := BW.out.trans (b7.mono hcH)
              have hHX : H ≤ XB := by have := B7.out.size; omega
              have O7 : Hid (OwnE w7 H (.slice a7 n7 c7) XE) := o7.mono hcH
              clear o7 b7 HDA b0 b1 b2 t0 t1 t2 t3 HX XTc RCc
              obtain ⟨W8, hW8⟩ : ∃ W, w7.alloc (.cells #[.int .i64 ta, .int .i64 tm, .slice a7 n7 c7] 45) = W := ⟨_, rfl⟩
              obtain ⟨x8, b8, z8⟩ := boxed hW8
              rw [hXB] at x8 b8 z8
              have X8 : Hid (Blk W8 XB [.int .i64 ta, .int .i64 tm, .slice a7 n7 c7]) := x8
              have B8 : Hid (Below H w W8) := B7.out.trans (b8.mono hHX)
              have O8 : Hid (OwnE W8 H (.slice a7 n7 c7) XE) := O7.out.below (by rw [hXB]; exact b8)
              clear x8 b8 O7 B7 BH B2
              by_cases hA0 : A = 0
              · obtain ⟨rfl, rfl⟩ := HAT.out hA0
                subst hA0
                clear HAT
                go_upto_region 24 with fail
                go_cut [167] (fun b wx => b = .bool (decide ((0 < q ∧ G.m ≤ (atS s.L (q - 1)).m) ∨ (q < n ∧ (atS s.L q).m ≤ G.m))) ∧ Below W8.heap.size W8 wx)
                case first =>
                  as_aux_lemma =>
                    have k0 := (B8.out.cell (p := ⟨K, 0, none⟩) hKl).trans c0
                    have x1 := X8.out.cell 1 _ rfl
                    have hB : Hid (Below W8.heap.size W8 W8) := Below.refl _ _
                    by_cases hqn' : q < n
                    · obtain ⟨b, o, rfl, hbH, -, hc, -⟩ := HC.out q (by rw [HZL.out]; exact hqn')
                      have HC1 : Hid (∀ j, j < n → w.cell? ⟨b, o + j * 3 + 1, none⟩ = some (.int .i64 (atS s.L j).m)) := fun j hj => by
                        obtain ⟨b', o', e, _, _, hc', _⟩ := HC.out j (by rw [HZL.out]; exact hj)
                        injection e with e; injection e with e1 e2 _; subst e1; subst e2
                        exact hc'
                      obtain ⟨y2, hy2⟩ : ∃ y, (atS s.L q).m = y := ⟨_, rfl⟩
                      have HY2 : Hid ((atS s.L q).m = y2) := hy2
                      rw [hy2] at hc
                      have r2 := (B8.out.cell (p := ⟨b, o + q * 3 + 1, none⟩) hbH).trans hc
                      have d1 : decide ((q : Int) < (n : Int)) = true := by simp; omega
                      by_cases hq0 : q = 0
                      · subst hq0
                        clear HC HC1 hc hy2
                        by_cases hlate : y2 ≤ G.m
                        · have d2 : decide (y2 ≤ G.m) = true := by simpa using hlate
                          have e : Hid (decide ((0 < 0 ∧ G.m ≤ y2) ∨ (0 < n ∧ y2 ≤ G.m)) = true) := by show decide ((0 < 0 ∧ G.m ≤ y2) ∨ (0 < n ∧ y2 ≤ G.m)) = true; simp [hlate, hqn']
                          go_quiet (fail)
                          go_wp2_with fail
                          go_meet
                          exact ⟨by rw [HY2.out, e.out], below_drewN hB.out _⟩
                        · have d2 : decide (y2 ≤ G.m) = false := by simpa using hlate
                          have e : Hid (decide ((0 < 0 ∧ G.m ≤ y2) ∨ (0 < n ∧ y2 ≤ G.m)) = false) := by show decide ((0 < 0 ∧ G.m ≤ y2) ∨ (0 < n ∧ y2 ≤ G.m)) = false; simp [hlate]
                          go_quiet (fail)
                          go_wp2_with fail
                          go_meet
                          exact ⟨by rw [HY2.out, e.out], below_drewN hB.out _⟩
                      · obtain ⟨p, hp⟩ : ∃ p, q = p + 1 := ⟨q - 1, by omega⟩
                        have hp' : q - 1 = p := by omega
                        have HP : Hid (q - 1 = p) := hp'
                        obtain ⟨y1, hy1⟩ : ∃ y, (atS s.L p).m = y := ⟨_, rfl⟩
                        have hc1' := HC1.out p (by omega)
                        have HY1 : Hid ((atS s.L p).m = y1) := hy1
                        rw [hy1] at hc1'
                        have r1 := (B8.out.cell (p := ⟨b, o + p * 3 + 1, none⟩) hbH).trans hc1'
                        have d0 : decide ((0 : Int) < (q : Int)) = true := by simp; omega
                        have hw : IntKind.i64.wrap ((q : Int) - 1) = (p : Int) := by rw [IntKind.wrap_i64]; omega
                        have hpn : p < n := by omega
                        have hq0' : 0 < q := by omega
                        clear HC HC1 hc hc1' hy1 hy2 hp'
                        by_cases hla : G.m ≤ y1
                        · have d2 : decide (G.m ≤ y1) = true := by simpa using hla
                          have e : Hid (decide ((0 < q ∧ G.m ≤ y1) ∨ (q < n ∧ y2 ≤ G.m)) = true) := by show decide ((0 < q ∧ G.m ≤ y1) ∨ (q < n ∧ y2 ≤ G.m)) = true; simp [hla, hq0']
                          clear hp
                          go_quiet (fail)
                          go_wp2_with fail
                          go_meet
                          exact ⟨by rw [HP.out, HY1.out, HY2.out, e.out], below_drewN hB.out _⟩
                        · have d2 : decide (G.m ≤ y1) = false := by simpa using hla
                          by_cases hlate : y2 ≤ G.m
                          · have d3 : decide (y2 ≤ G.m) = true := by simpa using hlate
                            have e : Hid (decide ((0 < q ∧ G.m ≤ y1) ∨ (q < n ∧ y2 ≤ G.m)) = true) := by show decide ((0 < q ∧ G.m ≤ y1) ∨ (q < n ∧ y2 ≤ G.m)) = true; simp [hlate, hqn']
                            clear hp
                            go_quiet (fail)
                            go_wp2_with fail
                            go_meet
                            exact ⟨by rw [HP.out, HY1.out, HY2.out, e.out], below_drewN hB.out _⟩
                          · have d3 : decide (y2 ≤ G.m) = false := by simpa using hlate
                            have e : Hid (decide ((0 < q ∧ G.m ≤ y1) ∨ (q < n ∧ y2 ≤ G.m)) = false) := by show decide ((0 < q ∧ G.m ≤ y1) ∨ (q < n ∧ y2 ≤ G.m)) = false; simp [hla, hlate]
                            clear hp
                            go_quiet (fail)
                            go_wp2_with fail
                            go_meet
                            exact ⟨by rw [HP.out, HY1.out, HY2.out, e.out], below_drewN hB.out _⟩
                    · obtain rfl : q = n := by omega
                      have d1 : decide ((q : Int) < (q : Int)) = false := by simp
                      by_cases hq0 : q = 0
                      · subst hq0
                        have e : Hid (decide ((0 < 0 ∧ G.m ≤ (atS s.L (0 - 1)).m) ∨ (0 < 0 ∧ (atS s.L 0).m ≤ G.m)) = false) := by show decide ((0 < 0 ∧ G.m ≤ (atS s.L (0 - 1)).m) ∨ (0 < 0 ∧ (atS s.L 0).m ≤ G.m)) = false; simp
                        clear HC
                        go_quiet (fail)
                        go_wp2_with fail
                        go_meet
                        exact ⟨by rw [e.out], below_drewN hB.out _⟩
                      · obtain ⟨p, hp⟩ : ∃ p, q = p + 1 := ⟨q - 1, by omega⟩
                        have hp' : q - 1 = p := by omega
                        have HP : Hid (q - 1 = p) := hp'
                        obtain ⟨b, o, rfl, hbH, -, hc, -⟩ := HC.out p (by rw [HZL.out]; omega)
                        obtain ⟨y1, hy1⟩ : ∃ y, (atS s.L p).m = y := ⟨_, rfl⟩
                        have HY1 : Hid ((atS s.L p).m = y1) := hy1
                        rw [hy1] at hc
                        have r1 := (B8.out.cell (p := ⟨b, o + p * 3 + 1, none⟩) hbH).trans hc
                        have d0 : decide ((0 : Int) < (q : Int)) = true := by simp; omega
                        have hw : IntKind.i64.wrap ((q : Int) - 1) = (p : Int) := by rw [IntKind.wrap_i64]; omega
                        have hpn : p < q := by omega
                        have hq0' : 0 < q := by omega
                        clear HC hc hy1 hp'
                        by_cases hla : G.m ≤ y1
                        · have d2 : decide (G.m ≤ y1) = true := by simpa using hla
                          have e : Hid (decide ((0 < q ∧ G.m ≤ y1) ∨ (q < q ∧ (atS s.L q).m ≤ G.m)) = true) := by show decide ((0 < q ∧ G.m ≤ y1) ∨ (q < q ∧ (atS s.L q).m ≤ G.m)) = true; simp [hla, hq0']
                          clear hp
                          go_quiet (fail)
                          go_wp2_with fail
                          go_meet
                          exact ⟨by rw [HP.out, HY1.out, e.out], below_drewN hB.out _⟩
                        · have d2 : decide (G.m ≤ y1) = false := by simpa using hla
                          have e : Hid (decide ((0 < q ∧ G.m ≤ y1) ∨ (q < q ∧ (atS s.L q).m ≤ G.m)) = false) := by show decide ((0 < q ∧ G.m ≤ y1) ∨ (q < q ∧ (atS s.L q).m ≤ G.m)) = false; simp [hla]
                          clear hp
                          go_quiet (fail)
                          go_wp2_with fail
                          go_meet
                          exact ⟨by rw [HP.out, HY1.out, e.out], below_drewN hB.out _⟩
                case rest =>
                  obtain ⟨rfl, hbl⟩ := hcut
                  have BC : Hid (Below H w wc) := B8.out.trans (hbl.mono (by omega))
                  have XC : Hid (Blk wc XB [.int .i64 G.t, .int .i64 G.m, .slice a7 n7 c7]) := X8.out.below hbl X8.out.lt
                  have OC : Hid (OwnE wc H (.slice a7 n7 c7) XE) := O8.out.below hbl
                  clear hbl X8 O8 B8 z8 hW8
                  have HLA : Hid (rfE s.M fl s.L G R = if (0 < q ∧ G.m ≤ (atS s.L (q - 1)).m) ∨ (q < n ∧ (atS s.L q).m ≤ G.m) then 16 else 0) := by
                    have := rfE_end (M := s.M) (fl := fl) (R := R) HR.out HIS.out (by rw [HLO.out, HN.out, HM.out]; exact H13.out) H14.out HA.out
                    rw [HLO.out, HN.out] at this
                    exact this
                  by_cases hlate : (0 < q ∧ G.m ≤ (atS s.L (q - 1)).m) ∨ (q < n ∧ (atS s.L q).m ≤ G.m)
                  · have HEE : Hid (tkE s l = 16) := by show tkE s l = 16; rw [HF.out, HLA.out, if_pos hlate]
                    rw [decide_eq_true hlate]
                    clear hlate HC HLA
                    go_wp2_with fail
                    go_ret2
                    obtain ⟨q1, q2⟩ := HRET.out _ BC.out (by rw [HEE.out]; decide)
                    rw [q1, HEE.out]
                    exact ⟨rfl, q2⟩
                  have HEE : Hid (tkE s l = 0) := by show tkE s l = 0; rw [HF.out, HLA.out, if_neg hlate]
                  rw [decide_eq_false hlate]
                  clear hlate HLA HRET HC
                  obtain ⟨HX, hHXe⟩ : ∃ x, wc.heap.size = x := ⟨_, rfl⟩
                  have hHH : H ≤ HX := by have := BC.out.size; omega
                  have hXBl : XB < HX := by have := XC.out.lt; omega
                  have hKX : K < HX := by omega
                  have k0 := (BC.out.cell (p := ⟨K, 0, none⟩) hKl).trans c0
                  have HON : Hid (OneS Z) := HTL.out.one
                  have HZS : Hid (∀ b o, ao = some ⟨b, o, none⟩ → b < H) := fun b o e => by
                    obtain ⟨b', o', e', _, cur, hcur⟩ := HW4.out _ e
                    injection e' with e1 e2 _; subst e1
                    rw [← hH]; exact (Array.getElem?_eq_some_iff.1 hcur).1
                  go_upto_region 26 with fail
                  obtain ⟨W1, hW1⟩ : ∃ W1, wc.alloc (.cells #[] 45) = W1 := ⟨_, rfl⟩
                  have O1 := ownS_empty hW1
                  obtain ⟨_, y2, y3, _⟩ := boxA hW1
                  rw [hHXe] at O1 y2 y3
                  have c01 := (y2.cell (p := ⟨K, 0, none⟩) hKX).trans k0
                  have OO : Hid (OwnS W1 HX (.slice (some ⟨HX, 0, none⟩) 0 0) []) := O1
                  have Y2 : Hid (Below HX wc W1) := y2
                  have hW1H : HX ≤ W1.heap.size := by omega
                  clear O1 y2
                  go_cut [14] (fun v wx => ∃ v8 w8, v8 = v ∧ w8 = wx ∧ OwnS w8 HX v8 (Z.take q) ∧ Below HX wc w8)
                  case first =>
                    as_aux_lemma =>
                      have HRr : Hid (∀ ad, ao = some ad → ∀ j u, (snC (Z.take q))[j]? = some u → W1.cell? (ad.add j) = some u) := fun ad hd j z hz => by
                        obtain ⟨b, o, rfl, _⟩ := HW4.out ad hd
                        rw [Addr.add_lit]
                        rw [← snC_take, List.getElem?_take] at hz
                        split at hz
                        · have hb := HZS.out b o hd
                          exact (Y2.out.cell (p := ⟨b, o + j, none⟩) (Nat.lt_of_lt_of_le hb hHH)).trans ((BC.out.cell (p := ⟨b, o + j, none⟩) hb).trans (HW5.out b o hd j z hz))
                        · cases hz
                      have HNo : Hid (ao = none → q = 0 ∧ cap = 0) := fun hd => ⟨by have := HW3.out hd; omega, HW3.out hd⟩
                      have htk : (Z.take q).length = q := by rw [List.length_take, HZL.out]; omega
                      have HTK : Hid _ := htk
                      clear htk
                      rcases ao with _ | ad
                      · obtain ⟨rfl, rfl⟩ := HNo.out rfl
                        go_wp2_with (at_builtin; refine appS_wp rfl _ _ rfl HX (.slice (some ⟨HX, 0, none⟩) 0 0) [] rfl (by exact OO.out) none 0 0 (Z.take 0) rfl HTK.out (fun _ => ⟨rfl, rfl⟩) HRr.out (HON.out.take 0) (by rw [HTK.out]; simp) hW1H ?_; intro v8 w8 o8 g8)
                        go_meet
                        exact ⟨_, _, rfl, rfl, by rw [List.nil_append] at o8; exact o8, Y2.out.trans g8.below⟩
                      · go_wp2_with (at_builtin; refine appS_wp rfl _ _ rfl HX (.slice (some ⟨HX, 0, none⟩) 0 0) [] rfl (by exact OO.out) (some ad) q cap (Z.take q) rfl HTK.out (fun h => (by cases h)) HRr.out (HON.out.take q) (by rw [HTK.out]; simp; omega) hW1H ?_; intro v8 w8 o8 g8)
                        go_meet
                        exact ⟨_, _, rfl, rfl, by rw [List.nil_append] at o8; exact o8, Y2.out.trans g8.below⟩
                  case rest =>
                    obtain ⟨v8, w8, rfl, rfl, o8, b8⟩ := hcut
                    clear OO Y2 hW1H c01 y3 hW1
                    have O8 : Hid (OwnS w8 HX v8 (Z.take q)) := o8
                    have B8 : Hid (Below HX wc w8) := b8
                    have hH8 : HX ≤ w8.heap.size := by have := b8.size; omega
                    have c08 := (b8.cell (p := ⟨K, 0, none⟩) hKX).trans k0
                    have X8 : Hid (Blk w8 XB [.int .i64 G.t, .int .i64 G.m, .slice a7 n7 c7]) := XC.out.below b8 hXBl
                    have x80 := X8.out.cell 0 _ rfl
                    have x81 := X8.out.cell 1 _ rfl
                    have x82 := X8.out.cell 2 _ rfl
                    clear o8 b8
                    have htl : (Z.take q).length = q := by rw [List.length_take, HZL.out]; omega
                    have HTL' : Hid _ := htl
                    have hdl : (Z.drop q).length = n - q := by rw [List.length_drop, HZL.out]
                    have HDL : Hid _ := hdl
                    obtain ⟨nb, hnb⟩ : ∃ nb, w8.heap.size = nb := ⟨_, rfl⟩
                    have hal := (Below.refl w8.heap.size w8).drew.alloc (by show w8.heap.size ≤ w8.heap.size; exact Nat.le_refl _) (.cells #[.int .i64 G.t, .int .i64 G.m, .slice a7 n7 c7] 45)
                    have HAL : Hid (Below HX wc (w8.drew.alloc (.cells #[.int .i64 G.t, .int .i64 G.m, .slice a7 n7 c7] 45))) := B8.out.trans (hal.mono hH8)
                    have O9 : Hid (OwnS (w8.drew.alloc (.cells #[.int .i64 G.t, .int .i64 G.m, .slice a7 n7 c7] 45)) HX v8 (Z.take q)) := O8.out.below hal
                    have HP1 : Hid (∀ ad, some (⟨nb, 0, none⟩ : Addr) = some ad → ∀ j u, (snC [(G.t, G.m, Value.slice a7 n7 c7)])[j]? = some u → (w8.drew.alloc (.cells #[.int .i64 G.t, .int .i64 G.m, .slice a7 n7 c7] 45)).cell? (ad.add j) = some u) := fun ad hd j z hz => by
                      injection hd with hd; subst hd
                      rw [Addr.add_lit, Nat.zero_add, World.cell?_alloc_at (w := w8.drew) _ _ nb j (by show nb = w8.heap.size; exact hnb.symm)]
                      rw [← hz]; simp [snC]
                    have c09 : (w8.drew.alloc (.cells #[.int .i64 G.t, .int .i64 G.m, .slice a7 n7 c7] 45)).cell? ⟨K, 0, none⟩ = some (.slice ao n cap) := (HAL.out.cell (p := ⟨K, 0, none⟩) hKX).trans k0
                    have c09b : (w8.alloc (.cells #[.int .i64 G.t, .int .i64 G.m, .slice a7 n7 c7] 45)).cell? ⟨K, 0, none⟩ = some (.slice ao n cap) := c09
                    have hone1 : Hid (OneS [(G.t, G.m, Value.slice a7 n7 c7)]) := fun p hp => by rw [List.mem_singleton.1 hp]; rfl
                    have hH9 : HX ≤ (w8.drew.alloc (.cells #[.int .i64 G.t, .int .i64 G.m, .slice a7 n7 c7] 45)).heap.size := by have := hal.size; omega
                    have HH9 : Hid _ := hH9
                    clear hal htl hdl hH9
                    go_upto_region 27 with fail
                    go_cut [14] (fun v wx => ∃ v11 w11, v11 = v ∧ w11 = wx ∧ OwnS w11 HX v11 (Z.take q ++ [(G.t, G.m, .slice a7 n7 c7)] ++ Z.drop q) ∧ Below HX wc w11)
                    case first =>
                      as_aux_lemma =>
                        have X9d : Hid (Blk (w8.drew.alloc (.cells #[.int .i64 G.t, .int .i64 G.m, .slice a7 n7 c7] 45)) XB [.int .i64 G.t, .int .i64 G.m, .slice a7 n7 c7]) := XC.out.below HAL.out hXBl
                        have x90 := X9d.out.cell 0 _ rfl
                        have x91 := X9d.out.cell 1 _ rfl
                        have x92 := X9d.out.cell 2 _ rfl
                        rcases ao with _ | ad
                        · obtain rfl := HW3.out rfl
                          obtain rfl : n = 0 := by omega
                          obtain rfl : q = 0 := by omega
                          go_region_held_law (fun w' => w'.cell? ⟨K, 0, none⟩ = some (.slice none 0 0) ∧ w'.cell? ⟨XB, 0, none⟩ = some (.int .i64 G.t) ∧ w'.cell? ⟨XB, 1, none⟩ = some (.int .i64 G.m) ∧ w'.cell? ⟨XB, 2, none⟩ = some (.slice a7 n7 c7)) (first | with_reducible exact ⟨c011, x110, x111, x112⟩ | with_reducible exact ⟨c010, x100, x101, x102⟩ | with_reducible exact ⟨c09, x90, x91, x92⟩ | with_reducible exact ⟨c08, x80, x81, x82⟩ | exact ⟨c09, x90, x91, x92⟩ | exact ⟨c08, x80, x81, x82⟩ | go_keep)
                          (first
                            | (refine appS_step rfl (some 179) rfl _ _ rfl HX v8 (Z.take 0) rfl (by exact O9.out) (some ⟨nb, 0, none⟩) 1 1 [(G.t, G.m, .slice a7 n7 c7)] rfl rfl (fun h => (by cases h)) HP1.out hone1.out (by rw [HTL'.out]; simp <;> omega) HH9.out ?_; intro v9 w9 o9 g9; (try simp only [Act.put, List.setIfInBounds_toArray, List.set_cons_zero, List.set_cons_succ]); have B9 := HAL.out.trans g9.below; have hH10 := Nat.le_trans HH9.out g9.below.size; have X9 := XC.out.below B9 hXBl; have c010 := (B9.cell (p := ⟨K, 0, none⟩) hKX).trans k0; have x100 := X9.cell 0 _ rfl; have x101 := X9.cell 1 _ rfl; have x102 := X9.cell 2 _ rfl)
                            | (refine appS_step rfl (some 186) rfl _ _ rfl HX v9 (Z.take 0 ++ [(G.t, G.m, .slice a7 n7 c7)]) rfl (by exact o9) none (0) (0) (Z.drop 0) rfl HDL.out (fun _ => ⟨rfl, rfl⟩) (fun _ h => (by cases h)) (HON.out.drop 0) (by rw [List.length_append, HTL'.out, HDL.out]; simp <;> omega) hH10 ?_; intro v11 w11 o11 g11; (try simp only [Act.put, List.setIfInBounds_toArray, List.set_cons_zero, List.set_cons_succ]); have B11 := B9.trans g11.below; have X11 := XC.out.below B11 hXBl; have c011 := (B11.cell (p := ⟨K, 0, none⟩) hKX).trans k0; have x110 := X11.cell 0 _ rfl; have x111 := X11.cell 1 _ rfl; have x112 := X11.cell 2 _ rfl))
                          all_goals (go_wp2_with fail)
                          all_goals go_meet
                          all_goals exact ⟨_, _, rfl, rfl, o11, B11⟩
                        · obtain ⟨b, o, rfl, -⟩ := HW4.out ad rfl
                          have hb : b < HX := Nat.lt_of_lt_of_le (HZS.out b o rfl) hHH
                          obtain ⟨A, hA⟩ : ∃ A : Addr, (if cap = q then some (⟨b, o, none⟩ : Addr) else some ⟨b, o + q * 3, none⟩) = some A := by by_cases e : cap = q <;> simp [e]
                          have HD2 : Hid (∀ w', Below HX wc w' → ∀ ad, some A = some ad → ∀ j u, (snC (Z.drop q))[j]? = some u → w'.cell? (ad.add j) = some u) := fun w' bw ad hd j z hz => by
                            rw [← snC_drop, List.getElem?_drop] at hz
                            have hjl : q * 3 + j < n * 3 := by have := (List.getElem?_eq_some_iff.1 hz).1; rwa [snC_len, HZL.out] at this
                            rw [if_neg (by omega)] at hA
                            rw [← hA] at hd
                            injection hd with hd; subst hd
                            rw [Addr.add_lit, Nat.add_assoc]
                            exact (bw.cell (p := ⟨b, o + (q * 3 + j), none⟩) hb).trans ((BC.out.cell (p := ⟨b, o + (q * 3 + j), none⟩) (HZS.out b o rfl)).trans (HW5.out b o rfl _ z hz))
                          have hqc : q ≤ cap := by omega
                          go_region_held_law (fun w' => w'.cell? ⟨K, 0, none⟩ = some (.slice (some ⟨b, o, none⟩) n cap) ∧ w'.cell? ⟨XB, 0, none⟩ = some (.int .i64 G.t) ∧ w'.cell? ⟨XB, 1, none⟩ = some (.int .i64 G.m) ∧ w'.cell? ⟨XB, 2, none⟩ = some (.slice a7 n7 c7)) (first | with_reducible exact ⟨c011, x110, x111, x112⟩ | with_reducible exact ⟨c010, x100, x101, x102⟩ | with_reducible exact ⟨c09, x90, x91, x92⟩ | with_reducible exact ⟨c08, x80, x81, x82⟩ | exact ⟨c09, x90, x91, x92⟩ | exact ⟨c08, x80, x81, x82⟩ | go_keep)
                          (first
                            | (refine appS_step rfl (some 179) rfl _ _ rfl HX v8 (Z.take q) rfl (by exact O9.out) (some ⟨nb, 0, none⟩) 1 1 [(G.t, G.m, .slice a7 n7 c7)] rfl rfl (fun h => (by cases h)) HP1.out hone1.out (by rw [HTL'.out]; simp <;> omega) HH9.out ?_; intro v9 w9 o9 g9; (try simp only [Act.put, List.setIfInBounds_toArray, List.set_cons_zero, List.set_cons_succ]); have B9 := HAL.out.trans g9.below; have hH10 := Nat.le_trans HH9.out g9.below.size; have X9 := XC.out.below B9 hXBl; have c010 := (B9.cell (p := ⟨K, 0, none⟩) hKX).trans k0; have x100 := X9.cell 0 _ rfl; have x101 := X9.cell 1 _ rfl; have x102 := X9.cell 2 _ rfl)
                            | (refine appS_step rfl (some 186) rfl _ _ rfl HX v9 (Z.take q ++ [(G.t, G.m, .slice a7 n7 c7)]) rfl (by exact o9) (some A) (n - q) (cap - q) (Z.drop q) rfl HDL.out (fun h => (by cases h)) (HD2.out w9 B9) (HON.out.drop q) (by rw [List.length_append, HTL'.out, HDL.out]; simp <;> omega) hH10 ?_; intro v11 w11 o11 g11; (try simp only [Act.put, List.setIfInBounds_toArray, List.set_cons_zero, List.set_cons_succ]); have B11 := B9.trans g11.below; have X11 := XC.out.below B11 hXBl; have c011 := (B11.cell (p := ⟨K, 0, none⟩) hKX).trans k0; have x110 := X11.cell 0 _ rfl; have x111 := X11.cell 1 _ rfl; have x112 := X11.cell 2 _ rfl))
                          all_goals (go_wp2_with fail)
                          all_goals go_meet
                          all_goals exact ⟨_, _, rfl, rfl, o11, B11⟩
                    case rest =>
                      obtain ⟨v11, w11, rfl, rfl, o11, b11⟩ := hcut
                      have hll : (Z.take q ++ [(G.t, G.m, Value.slice a7 n7 c7)] ++ Z.drop q).length = n + 1 := by
                        rw [List.length_append, List.length_append, HTL'.out, HDL.out]; simp; omega
                      have BW : Hid (Below H w w11) := BC.out.trans (b11.mono hHH)
                      have HT0 : Hid (TelS w11 (K + 1) Z s.L) := HTL.out.below (by rw [hH]; exact BW.out)
                      have OX : Hid (OwnE w11 (K + 1) (.slice a7 n7 c7) (tkX s.L G R).E) := by
                        show OwnE w11 (K + 1) _ _
                        rw [HXE.out]
                        exact (OC.out.below (by rw [hHXe]; exact b11)).mono (by omega)
                      have HLD : Hid (laidS s.L (tkX s.L G R) = s.L.take q ++ [tkX s.L G R] ++ s.L.drop q) := by
                        have := low_laid (x := tkX s.L G R) HR.out HIS.out
                        rw [show (tkX s.L G R).t = G.t from rfl, HLO.out] at this
                        show laidS s.L (tkX s.L G R) = _
                        rw [show laidS s.L (tkX s.L G R) = _ from this]; simp
                      have HT : Hid (TelS w11 (K + 1) (Z.take q ++ [(G.t, G.m, .slice a7 n7 c7)] ++ Z.drop q) (laidS s.L (tkX s.L G R))) := by
                        show TelS _ _ _ _
                        rw [HLD.out]
                        exact ((HT0.out.take q).app (Z' := [(G.t, G.m, .slice a7 n7 c7)]) (L' := [tkX s.L G R]) ⟨⟨rfl, rfl, OX.out⟩, trivial⟩).app (HT0.out.drop q)
                      have HFL : Hid (Flo s.M (rfF s.M fl s.L (tkX s.L G R)) (keepS s.M s.L (tkX s.L G R))) :=
                        flo_keep HR.out H0.out.flo HLE.out HIS.out (fun h => H13.out (Or.inr ⟨by have := low_unt HR.out HIS.out; rw [HLO.out] at this; rw [this]; exact h.2, by rw [← HN.out, ← HM.out]; exact h.1⟩)) (Or.inr (by
                          show fl < G.t
                          have := H13.out
                          rcases Int.lt_or_le fl G.t with q | q
                          · exact q
                          · exact absurd (Or.inl q) this))
                      have HLL : Hid ((laidS s.L (tkX s.L G R)).length = n + 1) := by show (laidS s.L (tkX s.L G R)).length = n + 1; rw [laidS_len, HN.out]
                      obtain ⟨ZZ, hZZ⟩ : ∃ x, Z.take q ++ [(G.t, G.m, Value.slice a7 n7 c7)] ++ Z.drop q = x := ⟨_, rfl⟩
                      rw [hZZ] at hll o11 HT
                      have hnL : ZZ ≠ [] := fun e => by rw [e] at hll; simp at hll
                      obtain ⟨ao9, cap9, rfl, hc9, hm9, hcs⟩ := o11.form
                      obtain ⟨g, rfl, _, hcell⟩ := hcs hnL
                      have hgH : HX ≤ g := ((RdT.of_own o11).blk g rfl).1
                      have hk0 := (hcell 0 (by omega)).1
                      have HZ0 : Hid (ZZ[0].1 = (atS (laidS s.L (tkX s.L G R)) 0).t) := (HT.out.at 0 (by omega)).1
                      rw [HZ0.out, Nat.zero_mul] at hk0
                      obtain ⟨z, hz⟩ : ∃ z, (atS (laidS s.L (tkX s.L G R)) 0).t = z := ⟨_, rfl⟩
                      have HZ1 : Hid ((atS (laidS s.L (tkX s.L G R)) 0).t = z) := hz
                      rw [hz] at hk0
                      rw [hll] at hc9 o11
                      rw [hll]
                      have HZL' : Hid (ZZ.length = n + 1) := hll
                      have O11 : Hid (OwnS w11 HX (.slice (some ⟨g, 0, none⟩) (n + 1) cap9) ZZ) := o11
                      have hBK : Hid (Blk w11 K (.slice ao n cap :: .int .i64 (s.M : Nat) :: .int .i64 fl :: s.N.map fun x => .int .i64 x)) := H0.out.blk.below BW.out hKl
                      have hTY : Hid (∃ cur, w11.heap[K]? = some (.cells cur 41 (0, 0))) := by
                        obtain ⟨cur, hc⟩ := H0.out.typ
                        exact ⟨cur, (BW.out.block K hKl).trans hc⟩
                      have XC' : Hid (Blk w11 XB [.int .i64 G.t, .int .i64 G.m, .slice a7 n7 c7]) := XC.out.below b11 hXBl
                      have hgK : g ≠ K := by omega
                      have hXK : K ≠ XB := by omega
                      have m0 := hBK.out.cell 0 _ rfl
                      have m1 := hBK.out.cell 1 _ rfl
                      have m2 := hBK.out.cell 2 _ rfl
                      have f0 := hBK.out.froz 0
                      have f2 := hBK.out.froz 2
                      rw [HM.out] at m1
                      have x0 := XC'.out.cell 0 _ rfl
                      have hz0 : IntKind.i64.wrap ((n : Int) + 1) = (n : Int) + 1 := by rw [IntKind.wrap_i64]; omega
                      obtain ⟨yt, yl⟩ := HYE.out HEE.out
                      have HYT : Hid (tkT s l = G.t) := yt
                      have HYL : Hid (tkL s l = keepS s.M s.L (tkX s.L G R)) := yl
                      have CW : Hid (Ch K w w11) := Ch.of (by rw [hH]; exact BW.out) (by rw [hH]; exact Nat.le_of_lt hKl)
                      clear HZ0 O9 HP1 c09 c09b hone1 HH9 HAL HTL' HDL c08 hnb O8 B8 hH8 HW3 HW4 HW5 X8 x80 x81 x82 b11 yt yl hZZ hcs hcell hll hnL hz hz0 c0 c1 c2 o11 HT0 OX OC XC BC k0 HZS HON HTL
                      by_cases hfi : n < M
                      · have hK1 : keepS s.M s.L (tkX s.L G R) = laidS s.L (tkX s.L G R) := if_pos (by rw [HN.out, HM.out]; exact hfi)
                        have hF1 : rfF s.M fl s.L (tkX s.L G R) = fl := if_neg (by rw [HLL.out, HM.out]; omega)
                        have HK1 : Hid _ := hK1
                        have HF1 : Hid _ := hF1
                        have d1 : decide ((M : Int) < (n : Int) + 1) = false := by simp; omega
                        have d2 : ¬ (M < n + 1) := by omega
                        obtain ⟨W, hW⟩ : ∃ W, w11.setCell ⟨K, 0, none⟩ (.slice (some ⟨g, 0, none⟩) (n + 1) cap9) = W := ⟨_, rfl⟩
                        have e0 : W.cell? ⟨XB, 0, none⟩ = some (.int .i64 G.t) := by rw [← hW]; exact far1c x0 hXK
                        have RF : Hid (RefS W K (.slice (some ⟨g, 0, none⟩) (n + 1) cap9) fl ⟨s.M, tkL s l, s.N⟩) := by
                          show RefS W K _ fl _
                          rw [← hW]
                          refine ⟨hBK.out.set 0 _ (by simp), typ_set hTY.out, ⟨ZZ, (RdT.of_own (O11.out.mono (by omega))).set, ?_⟩, ?_⟩
                          · show TelS _ _ ZZ (tkL s l)
                            rw [HYL.out, HK1.out]; exact HT.out.set
                          · show Flo s.M fl (tkL s l)
                            rw [HYL.out]; have := HFL.out; rw [HF1.out] at this; exact this
                        have CH : Hid (Ch K w W) := by show Ch K w W; rw [← hW]; exact CW.out.set _ _
                        clear hK1 hF1
                        go_wp2_with fail
                        go_ret2
                        rw [HYT.out, HEE.out]
                        exact ⟨rfl, ⟨_, _, RF.out⟩, CH.out⟩
                      · have hK1 : keepS s.M s.L (tkX s.L G R) = (laidS s.L (tkX s.L G R)).tail := if_neg (by rw [HN.out, HM.out]; exact hfi)
                        have hF1 : rfF s.M fl s.L (tkX s.L G R) = z := by unfold rfF; rw [if_pos (by rw [HLL.out, HM.out]; omega), HZ1.out]
                        have HK1 : Hid _ := hK1
                        have HF1 : Hid _ := hF1
                        have d1 : decide ((M : Int) < (n : Int) + 1) = true := by simp; omega
                        have d2 : M < n + 1 := by omega
                        obtain ⟨W13, hW13⟩ : ∃ W, w11.setCell ⟨K, 2, none⟩ (.int .i64 z) = W := ⟨_, rfl⟩
                        have B13 : Hid (Blk W13 K (.slice ao n cap :: .int .i64 (s.M : Nat) :: .int .i64 z :: s.N.map fun x => .int .i64 x)) := by show Blk W13 K _; rw [← hW13]; exact hBK.out.set 2 _ (by simp)
                        have y0 := B13.out.cell 0 _ rfl
                        have g0 := B13.out.froz 0
                        have e0 : W13.cell? ⟨XB, 0, none⟩ = some (.int .i64 G.t) := by rw [← hW13]; exact far1c x0 hXK
                        obtain ⟨A, hA⟩ : ∃ A : Addr, (if cap9 = 1 then some (⟨g, 0, none⟩ : Addr) else some ⟨g, 3, none⟩) = some A := by by_cases e : cap9 = 1 <;> simp [e]
                        obtain ⟨W, hW⟩ : ∃ W, W13.setCell ⟨K, 0, none⟩ (.slice (some A) n (cap9 - 1)) = W := ⟨_, rfl⟩
                        have e1 : W.cell? ⟨XB, 0, none⟩ = some (.int .i64 G.t) := by rw [← hW]; exact far1c e0 hXK
                        have RF : Hid (RefS W K (.slice (some A) n (cap9 - 1)) z ⟨s.M, tkL s l, s.N⟩) := by
                          show RefS W K _ z _
                          rw [← hW]
                          have hrt : RdT w11 (K + 1) (.slice (some A) n (cap9 - 1)) ZZ.tail := RdT.tail_own (O11.out.mono (by omega)) HZL'.out _ hA.symm
                          refine ⟨B13.out.set 0 _ (by simp), typ_set ?_, ⟨ZZ.tail, RdT.set ?_, TelS.set ?_⟩, ?_⟩
                          · rw [← hW13]; exact typ_set hTY.out
                          · rw [← hW13]; exact hrt.set
                          · rw [← hW13]
                            show TelS _ _ _ (tkL s l)
                            rw [HYL.out, HK1.out]; exact HT.out.tail.set
                          · show Flo s.M z (tkL s l)
                            rw [HYL.out]; have := HFL.out; rw [HF1.out] at this; exact this
                        have CH : Hid (Ch K w W) := by show Ch K w W; rw [← hW, ← hW13]; exact (CW.out.set _ _).set _ _
                        have h1c : 1 ≤ cap9 := by omega
                        clear hK1 hF1
                        go_wp2_with fail
                        go_ret2
                        rw [HYT.out, HEE.out]
                        exact ⟨rfl, ⟨_, _, RF.out⟩, CH.out⟩
              · have H14' : Hid _ := H14
                have HEE : Hid (tkE s l = A) := by show tkE s l = A; rw [HF.out, ← HA.out]; exact rfE_A HR.out HIS.out (by rw [HLO.out, HN.out, HM.out]; exact H13.out) H14.out (by rw [HA.out]; exact hA0)
                have HZ : Hid (A ≠ 0) := hA0
                clear HC HAT
                go_wp2_with fail
                go_ret2
                obtain ⟨q1, q2⟩ := HRET.out _ B8.out (by rw [HEE.out]; exact HZ.out)
                rw [q1, HEE.out]
                exact ⟨rfl, q2⟩
            · have e : thK s.L G.b n = false := by
                cases h : thK s.L G.b n with
                | false => rfl
                | true => exact absurd (bt.1 h) h14
              have HEE : Hid (tkE s l = 14) := by show tkE s l = 14; rw [HF.out]; exact rfE_14 HR.out HIS.out (by rw [HLO.out, HN.out, HM.out]; exact H13.out) h14
              rw [e]
              clear h14 HC ba bt e hx ho
              go_wp2_with fail
              go_ret2
              obtain ⟨q1, q2⟩ := HRET.out _ (BH.out.trans (hbl.mono hHB)) (by rw [HEE.out]; decide)
              rw [q1, HEE.out]
              exact ⟨rfl, q2⟩
  · have e0 := HE1.out hE0
    have HZ : Hid (tkE s l ≠ 0) := by show tkE s l ≠ 0; rw [e0]; exact hE0
    have HRE : Hid (tkE s l = E) := e0
    clear e0
    obtain ⟨W2, hW2⟩ : ∃ W, w1.alloc (.cells #[.int .i64 G.t, .int .i64 G.m, .int .i64 G.b, .slice a1 R.length c1_1] 61) = W := ⟨_, rfl⟩
    have B2 : Hid (Below H w W2) := by
      obtain ⟨_, b2, _⟩ := boxed hW2
      exact B1.out.trans (b2.mono (by have := B1.out.size; omega))
    go_wp2_with fail
    go_ret2
    obtain ⟨q1, q2⟩ := HRET.out W2 B2.out HZ.out
    rw [q1, HRE.out]
    exact ⟨rfl, q2⟩
end Go.Proofs.YtlpdhglibgnkoaaGreat
