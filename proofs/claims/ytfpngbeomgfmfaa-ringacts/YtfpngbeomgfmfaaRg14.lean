/-
  Layer 11 (ring): the document's Lay.
-/
import Derived.Test.YtfpngbeomgfmfaaRg13
import Derived.Test.YtfpngbeomgfmfaaReg
import Derived.Deep.RegionHeldLaw
namespace Go.Proofs.Ytfpngbeomgfmfaa
open Go.RowKit
set_option linter.unusedVariables false
set_option maxRecDepth 20000
theorem infoO : (Try.prog.info? 46).map (fun i => (i.zero, i.size, i.bytes)) = some (some (.agg #[.int .i64 0, .string ⟨#[]⟩]), 2, 24) := by kernel_rfl
/-- Numbers ahead of a place are less, and from it on none is less: whether the one is there, and where it would stand. -/
theorem place_is {L : List Pr} (hr : Rise L) {k : Int} {q : Nat} (hq : q ≤ L.length) (h1 : ∀ t, t < q → keyAt L t < k) (h2 : q < L.length → k ≤ keyAt L q) : (isAt L k = (decide (q < L.length) && decide (keyAt L q = k))) ∧ (isAt L k = false → untl L k = q) := by
  have h3 : ∀ t, q ≤ t → t < L.length → k ≤ keyAt L t := fun t h4 h5 => by
    rcases Nat.eq_or_lt_of_le h4 with rfl | h4
    · exact h2 h5
    · have := keyAt_lt hr h4 h5; have := h2 (by omega); omega
  constructor
  · by_cases h : q < L.length ∧ keyAt L q = k
    · rw [(found_at hr h.1 h.2 noPr.2).1]; simp [h.1, h.2]
    · have : isAt L k = false := (not_found hr (fun t ht e => by
        rcases Nat.lt_trichotomy t q with h4 | rfl | h4
        · have := h1 t h4; omega
        · exact h ⟨ht, e⟩
        · have := keyAt_lt hr h4 ht; have := h2 (by omega); omega) noPr.2).1
      rw [this]
      by_cases h5 : q < L.length
      · have : ¬ keyAt L q = k := fun e => h ⟨h5, e⟩
        simp [h5, this]
      · simp [h5]
  · intro hat
    have hne : ∀ t, t < L.length → keyAt L t ≠ k := fun t ht e => by
      rw [(found_at hr ht e noPr.2).1] at hat; cases hat
    have hu := untl_le L k
    rcases Nat.lt_trichotomy (untl L k) q with h4 | h4 | h4
    · have := mt (untl_iff hr k (untl L k) (by omega)).2 (by omega)
      have := h1 _ h4; omega
    · exact h4
    · have := (untl_iff hr k q (by omega)).1 h4
      have := h2 (by omega)
      exact absurd (by omega : keyAt L q = k) (hne q (by omega))
set_option maxHeartbeats 8000000 in
theorem ref_lay (w : World) (B R : Nat) (u : Value) (s : Rs) (h : RefV w B R u s) (k : Int) (hk : -9223372036854775808 ≤ k ∧ k ≤ 9223372036854775807) (x : ByteArray) :
    Calls Try.prog 13 #[.pointer (some ⟨R, 0, none⟩), .int .i64 k, .string x] w fun e w' => e = .returned (.tuple #[.int .i64 (layA s k).1, .bool (layA s k).2.1, .int .i64 (layA s k).2.2]) ∧ ∃ u', RefV w' B R u' (layS s k (.string x)) ∧ Chg B R u u' w w' := by
  have H0 : Hid (RefV w B R u s) := h
  obtain ⟨ao, cap, hu, h1, h2, h3, _, _⟩ := h.row
  obtain ⟨n, hn⟩ : ∃ n, s.L.length = n := ⟨_, rfl⟩
  obtain ⟨M, hM⟩ : ∃ M, s.M = M := ⟨_, rfl⟩
  have hnM : n ≤ M := by have := h.ok.len; omega
  have hM64 : M ≤ 64 := by have := h.ok.most; omega
  have c0 := h.blk.cell 0 _ rfl
  have c1 := h.blk.cell 1 _ rfl
  have c2 := h.blk.cell 2 _ rfl
  have c3 := h.blk.cell 3 _ rfl
  rw [hu, hn] at c0
  rw [hM] at c1
  have HC : Hid (∀ q, q < n → ∃ b o, ao = some ⟨b, o, none⟩ ∧ w.cell? ⟨b, o + q * 2, none⟩ = some (.int .i64 (keyAt s.L q))) := fun q hq => by
    have hL : s.L ≠ [] := by intro e; rw [e] at hn; simp at hn; omega
    obtain ⟨b, o, cap', e, _, _, _, hc⟩ := h.row.some_ hL
    rw [hu] at e; injection e with e _ _
    exact ⟨b, o, e, (hc q (by omega)).1⟩
  have HN : Hid (s.L.length = n) := hn
  have HM : Hid (s.M = M) := hM
  have HR : Hid (Rise s.L) := h.ok.rise
  have HGO : Hid (s.G = true → n = M ∧ (k ≤ s.F → untl s.L k = 0)) := fun hg => by
    obtain ⟨g1, g2⟩ := h.ok.gone hg
    exact ⟨by omega, fun hkf => untl_none fun p hp => by have := g2 p hp; omega⟩
  have hBR := h.le
  have hlt := h.blk.lt
  subst hu
  rw [hn] at h1
  clear h hn hM
  go_enter Try.func13, Try.ntmps13
  go_upto_block 0 with fail
  go_cut [9] (fun i wx => ∃ (q : Nat), q ≤ n ∧ i = .int .i64 q ∧ Hid (∀ t, t < q → keyAt s.L t < k) ∧ Hid (q < n → k ≤ keyAt s.L q) ∧ w = wx)
  case first =>
    go_wp2_with fail
    go_loopg [9] n (fun g i wr => ∃ (q : Nat), q + g = n ∧ i = .int .i64 q ∧ Hid (∀ t, t < q → keyAt s.L t < k) ∧ wr = w)
    case atStart => exact ⟨0, by omega, rfl, (fun t ht => absurd ht (Nat.not_lt_zero t) : ∀ t, t < 0 → keyAt s.L t < k), rfl⟩
    case round =>
      obtain ⟨q, hq, rfl, HQ, rfl⟩ := hrel
      by_cases hlt : q < n
      · obtain ⟨b, o, rfl, hc⟩ := HC.out q hlt
        obtain ⟨y, hy⟩ : ∃ y, keyAt s.L q = y := ⟨_, rfl⟩
        have HY : Hid (keyAt s.L q = y) := hy
        rw [hy] at hc
        clear hy HC
        by_cases hyk : y < k
        · have d1 : decide (y < k) = true := by simpa using hyk
          have HQ2 : Hid (∀ t, t < q + 1 → keyAt s.L t < k) := fun t ht => by
            rcases Nat.lt_or_ge t q with h | h
            · exact HQ.out t h
            · obtain rfl : t = q := by omega
              rw [HY.out]; exact hyk
          go_wp2_with fail
          go_roundg (gk - 1)
          case measure => omega
          case rel => exact ⟨q + 1, by omega, by go_num, HQ2, rfl⟩
        · have d1 : decide (y < k) = false := by simpa using hyk
          go_wp2_with fail
          go_meet
          exact ⟨q, by omega, rfl, HQ, (fun _ => by rw [HY.out]; omega : q < n → k ≤ keyAt s.L q), rfl⟩
      · obtain rfl : q = n := by omega
        clear HC
        go_wp2_with fail
        go_meet
        exact ⟨q, by omega, rfl, HQ, (fun h => absurd h hlt : q < q → k ≤ keyAt s.L q), rfl⟩
  case rest =>
    obtain ⟨q, hqn, rfl, HQ1, HQ2, rfl⟩ := hcut
    obtain ⟨pl1, pl2⟩ := place_is HR.out (k := k) (q := q) (by rw [HN.out]; exact hqn) HQ1.out (by rw [HN.out]; exact HQ2.out)
    rw [HN.out] at pl1
    have PL1 : Hid _ := pl1
    have PL2 : Hid _ := pl2
    clear pl1 pl2 HQ1 HQ2
    go_upto_region 4 with fail
    go_cut [50] (fun b wx => b = .bool (isAt s.L k) ∧ w = wx)
    case first =>
      by_cases hlt : q < n
      · obtain ⟨b, o, rfl, hc⟩ := HC.out q hlt
        obtain ⟨y, hy⟩ : ∃ y, keyAt s.L q = y := ⟨_, rfl⟩
        rw [hy] at hc PL1
        clear hy HC
        by_cases hyk : y = k
        · subst hyk
          have e : Hid (isAt s.L y = true) := by show isAt s.L y = true; rw [PL1.out]; simp [hlt]
          clear PL1 PL2
          go_wp2_with fail
          go_meet
          exact ⟨by rw [e.out], rfl⟩
        · have e : Hid (isAt s.L k = false) := by show isAt s.L k = false; rw [PL1.out]; simp [hyk]
          have d1 : (y == k) = false := by simpa using hyk
          clear PL1 PL2
          go_wp2_with fail
          go_meet
          exact ⟨by rw [e.out], rfl⟩
      · have e : Hid (isAt s.L k = false) := by show isAt s.L k = false; rw [PL1.out]; simp [hlt]
        have d1 : decide ((q : Int) < (n : Int)) = false := by simp; omega
        have d2 : decide (q < n) = false := by simp; omega
        clear PL1 PL2 HC
        go_wp2_with fail
        go_meet
        exact ⟨by rw [e.out], rfl⟩
    case rest =>
      obtain ⟨rfl, rfl⟩ := hcut
      by_cases hat : isAt s.L k = true
      · have HE : Hid (layA s k = (0, false, 12) ∧ layS s k (.string x) = s) := lay_dup hat
        rw [hat]
        clear hat PL1 PL2 HC
        go_wp2_with fail
        go_ret3
        rw [HE.out.1, HE.out.2]
        exact ⟨rfl, _, H0.out, Chg.of_below (Below.refl _ _) (by omega)⟩
      have hat' : isAt s.L k = false := by simpa using hat
      have HAT : Hid (isAt s.L k = false) := hat'
      have HU : Hid (untl s.L k = q) := PL2.out hat'
      rw [hat']
      clear hat hat' PL1 PL2 HC
      go_upto_region 6 with fail
      go_cut [78] (fun b wx => b = .bool (decide (q = 0 ∧ n = M)) ∧ ∃ nn, wx = w.drewN nn)
      case first =>
        obtain ⟨F, hF⟩ : ∃ F, s.F = F := ⟨_, rfl⟩
        rw [hF] at c2 HGO
        clear hF
        cases hG : s.G with
        | true =>
          obtain ⟨g1, g2⟩ := HGO.out hG
          rw [HU.out] at g2
          rw [hG] at c3
          subst g1
          clear HGO hG
          by_cases hkF : k ≤ F
          · have hq0 := g2 hkF
            subst hq0
            have d1 : decide (k ≤ F) = true := by simpa using hkF
            clear g2
            go_quiet (fail)
            go_wp2_with fail
            go_meet
            exact ⟨by simp, _, rfl⟩
          · have d1 : decide (k ≤ F) = false := by simpa using hkF
            clear g2
            by_cases hq0 : q = 0
            · subst hq0
              go_quiet (fail)
              go_wp2_with fail
              go_meet
              exact ⟨by simp, _, rfl⟩
            · have d2 : decide ((q : Int) = 0) = false := by simp; omega
              have d3 : ((q : Int) == 0) = false := by simp; omega
              have d4 : decide (q = 0) = false := by simpa using hq0
              have e : decide (q = 0 ∧ n = n) = false := by simp [hq0]
              go_quiet (fail)
              go_wp2_with fail
              go_meet
              exact ⟨by rw [e], _, rfl⟩
        | false =>
          rw [hG] at c3
          clear HGO hG
          by_cases hq0 : q = 0
          · subst hq0
            by_cases hnm : n = M
            · subst hnm
              go_quiet (fail)
              go_wp2_with fail
              go_meet
              exact ⟨by simp, _, rfl⟩
            · have d2 : decide ((n : Int) = (M : Int)) = false := by simp; omega
              have d3 : ((n : Int) == (M : Int)) = false := by simp; omega
              have e : decide (0 = 0 ∧ n = M) = false := by simp [hnm]
              go_quiet (fail)
              go_wp2_with fail
              go_meet
              exact ⟨by rw [e], _, rfl⟩
          · have d2 : decide ((q : Int) = 0) = false := by simp; omega
            have d3 : ((q : Int) == 0) = false := by simp; omega
            have d4 : decide (q = 0) = false := by simpa using hq0
            have e : decide (q = 0 ∧ n = M) = false := by simp [hq0]
            go_quiet (fail)
            go_wp2_with fail
            go_meet
            exact ⟨by rw [e], _, rfl⟩
      case rest =>
        obtain ⟨rfl, nn, hw⟩ := hcut
        have R6 : Hid (RefV wc B R (.slice ao n cap) s) := by show RefV wc B R (.slice ao n cap) s; rw [hw]; have := H0.out.drewN nn; rw [HN.out] at this; exact this
        have C6 : Hid (Chg B R (.slice ao n cap) (.slice ao n cap) w wc) := by show Chg B R (.slice ao n cap) (.slice ao n cap) w wc; rw [hw]; exact (Chg.of_below (Below.refl _ _) (by omega)).drewN nn
        have hRc : R < wc.heap.size := R6.out.blk.lt
        clear H0 c0 c1 c2 c3 hw HGO
        by_cases hst : q = 0 ∧ n = M
        · have e : decide (q = 0 ∧ n = M) = true := by simpa using hst
          have HE : Hid (layA s k = (0, false, 13) ∧ layS s k (.string x) = s) := lay_stale HAT.out ⟨by rw [HU.out]; exact hst.1, by rw [HN.out, HM.out]; exact hst.2⟩
          rw [e]
          clear e hst
          go_wp2_with fail
          go_ret3
          rw [HE.out.1, HE.out.2, HN.out]
          exact ⟨rfl, _, R6.out, C6.out⟩
        have e : decide (q = 0 ∧ n = M) = false := by simpa using hst
        rw [e]
        clear e
        have HST : Hid (¬ (q = 0 ∧ n = M)) := hst
        obtain ⟨H, hH⟩ : ∃ H, wc.heap.size = H := ⟨_, rfl⟩
        rw [hH] at hRc
        have hw0 : w.heap.size ≤ H := by have := C6.out.below.size; omega
        have hON := R6.out.ones
        have c0 := R6.out.blk.cell 0 _ rfl
        have c1 := R6.out.blk.cell 1 _ rfl
        rw [HM.out] at c1
        obtain ⟨ao', cap', hu', _, _, w3, w4, w5⟩ := R6.out.row
        injection hu' with hu1 hu2 hu3
        subst hu1; subst hu3
        clear hu2
        have W3 : Hid (ao = none → cap = 0) := w3
        have W4 : Hid (∀ a, ao = some a → ∃ b o, a = ⟨b, o, none⟩ ∧ b < H) := by rw [hH] at w4; exact w4
        have W5 : Hid (∀ b o, ao = some ⟨b, o, none⟩ → ∀ j x, (prs s.L)[j]? = some x → wc.cell? ⟨b, o + j, none⟩ = some x) := w5
        clear w3 w4 w5
        go_upto_region 8 with fail
        obtain ⟨W1, hW1⟩ : ∃ W1, wc.alloc (.cells #[] 46) = W1 := ⟨_, rfl⟩
        have O1 := ownP_empty hW1
        obtain ⟨_, y2, y3, _⟩ := boxA hW1
        rw [hH] at O1 y2 y3
        have c01 := (y2.cell (p := ⟨R, 0, none⟩) hRc).trans c0
        have OO : Hid (OwnP 46 W1 H (.slice (some ⟨H, 0, none⟩) 0 0) []) := O1
        have Y2 : Hid (Below H wc W1) := y2
        have hW1H : H ≤ W1.heap.size := by omega
        clear O1 y2
        go_cut [10] (fun v wx => ∃ v8 w8, v8 = v ∧ w8 = wx ∧ OwnP 46 w8 H v8 (s.L.take q) ∧ Below H wc w8)
        case first =>
          have HRr : Hid (∀ ad, ao = some ad → ∀ j u, (prs (s.L.take q))[j]? = some u → W1.cell? (ad.add j) = some u) := fun ad hd j z hz => by
            obtain ⟨b, o, rfl, hb⟩ := W4.out ad hd
            rw [Addr.add_lit]
            rw [← prs_take, List.getElem?_take] at hz
            split at hz
            · exact (Y2.out.cell (p := ⟨b, o + j, none⟩) hb).trans (W5.out b o hd j z hz)
            · cases hz
          have HNo : Hid (ao = none → q = 0 ∧ cap = 0) := fun hd => ⟨by have := W3.out hd; omega, W3.out hd⟩
          have htk : (s.L.take q).length = q := by rw [List.length_take, HN.out]; omega
          have HTK : Hid _ := htk
          clear htk
          rcases ao with _ | ad
          · obtain ⟨rfl, rfl⟩ := HNo.out rfl
            go_wp2_with (at_builtin; refine appP_wp rfl 30 46 (.string ⟨#[]⟩) 24 Try.underlying30 infoO (by decide) (by rfl) _ _ rfl H (.slice (some ⟨H, 0, none⟩) 0 0) [] rfl (by exact OO.out) none 0 0 (s.L.take 0) rfl HTK.out (fun _ => ⟨rfl, rfl⟩) HRr.out (hON.take 0) (by rw [HTK.out]; simp) hW1H ?_; intro v8 w8 o8 g8)
            go_meet
            exact ⟨_, _, rfl, rfl, by rw [List.nil_append] at o8; exact o8, Y2.out.trans g8.below⟩
          · go_wp2_with (at_builtin; refine appP_wp rfl 30 46 (.string ⟨#[]⟩) 24 Try.underlying30 infoO (by decide) (by rfl) _ _ rfl H (.slice (some ⟨H, 0, none⟩) 0 0) [] rfl (by exact OO.out) (some ad) q cap (s.L.take q) rfl HTK.out (fun h => (by cases h)) HRr.out (hON.take q) (by rw [HTK.out]; simp; omega) hW1H ?_; intro v8 w8 o8 g8)
            go_meet
            exact ⟨_, _, rfl, rfl, by rw [List.nil_append] at o8; exact o8, Y2.out.trans g8.below⟩
        case rest =>
          obtain ⟨v8, w8, rfl, rfl, o8, b8⟩ := hcut
          clear OO Y2 hW1H c01 y3 hW1 hst
          have O8 : Hid (OwnP 46 w8 H v8 (s.L.take q)) := o8
          have B8 : Hid (Below H wc w8) := b8
          have hH8 : H ≤ w8.heap.size := by have := b8.size; omega
          have hR8 : R < w8.heap.size := by omega
          have c08 := (b8.cell (p := ⟨R, 0, none⟩) hRc).trans c0
          clear o8 b8
          have htl : (s.L.take q).length = q := by rw [List.length_take, HN.out]; omega
          have HTL : Hid _ := htl
          have hdl : (s.L.drop q).length = n - q := by rw [List.length_drop, HN.out]
          have HDL : Hid _ := hdl
          obtain ⟨nb, hnb⟩ : ∃ nb, w8.heap.size = nb := ⟨_, rfl⟩
          have hal := (Below.refl w8.heap.size w8).drew.alloc (by show w8.heap.size ≤ w8.heap.size; exact Nat.le_refl _) (.cells #[.int .i64 k, .string x] 46)
          have HAL : Hid (Below H wc (w8.drew.alloc (.cells #[.int .i64 k, .string x] 46))) := B8.out.trans (hal.mono hH8)
          have O9 : Hid (OwnP 46 (w8.drew.alloc (.cells #[.int .i64 k, .string x] 46)) H v8 (s.L.take q)) := O8.out.below hal
          have HP1 : Hid (∀ ad, some (⟨nb, 0, none⟩ : Addr) = some ad → ∀ j u, (prs [(k, Value.string x)])[j]? = some u → (w8.drew.alloc (.cells #[.int .i64 k, .string x] 46)).cell? (ad.add j) = some u) := fun ad hd j z hz => by
            injection hd with hd; subst hd
            rw [Addr.add_lit, Nat.zero_add, World.cell?_alloc_at (w := w8.drew) _ _ nb j (by show nb = w8.heap.size; exact hnb.symm)]
            rw [prs_cons, prs_nil] at hz
            rw [← hz]; simp
          have c09 : (w8.drew.alloc (.cells #[.int .i64 k, .string x] 46)).cell? ⟨R, 0, none⟩ = some (.slice ao n cap) := (HAL.out.cell (p := ⟨R, 0, none⟩) hRc).trans c0
          have c09b : (w8.alloc (.cells #[.int .i64 k, .string x] 46)).cell? ⟨R, 0, none⟩ = some (.slice ao n cap) := c09
          have hone1 : Hid (Ones [(k, Value.string x)]) := fun p hp => by rw [List.mem_singleton.1 hp]; rfl
          have hH9 : H ≤ (w8.drew.alloc (.cells #[.int .i64 k, .string x] 46)).heap.size := by have := hal.size; omega
          have HH9 : Hid _ := hH9
          have hlaid : laid s.L k (.string x) = s.L.take q ++ [(k, .string x)] ++ s.L.drop q := by unfold laid; rw [HU.out]; simp
          have HLA : Hid _ := hlaid
          clear hal htl hdl hH9 hlaid
          go_upto_region 9 with fail
          go_cut [10] (fun v wx => ∃ v11 w11, v11 = v ∧ w11 = wx ∧ OwnP 46 w11 H v11 (laid s.L k (.string x)) ∧ Below H wc w11)
          case first =>
            rcases ao with _ | ad
            · obtain rfl := W3.out rfl
              obtain rfl : n = 0 := by omega
              obtain rfl : q = 0 := by omega
              go_wp2_with fail
              go_region_law (first | (refine appP_step rfl (some 92) rfl 30 46 (.string ⟨#[]⟩) 24 Try.underlying30 infoO (by decide) (by rfl) _ _ rfl H v8 (s.L.take 0) rfl (by exact O9.out) (some ⟨nb, 0, none⟩) 1 1 [(k, .string x)] rfl rfl (fun h => (by cases h)) HP1.out hone1.out (by rw [HTL.out]; simp) HH9.out ?_; intro v9 w9 o9 g9; have c010 := (g9.below.cell (p := ⟨R, 0, none⟩) hRc).trans c09; have B9 := HAL.out.trans g9.below; have hH10 := Nat.le_trans HH9.out g9.below.size) | (refine appP_step rfl (some 99) rfl 30 46 (.string ⟨#[]⟩) 24 Try.underlying30 infoO (by decide) (by rfl) _ _ rfl H v9 (s.L.take 0 ++ [(k, .string x)]) rfl (by exact o9) none 0 0 (s.L.drop 0) rfl HDL.out (fun _ => ⟨rfl, rfl⟩) (fun _ h => (by cases h)) (hON.drop 0) (by rw [List.length_append, HTL.out, HDL.out]; simp) hH10 ?_; intro v11 w11 o11 g11))
              all_goals (go_wp2_with fail; go_meet; exact ⟨_, _, rfl, rfl, by rw [HLA.out]; exact o11, B9.trans g11.below⟩)
            · obtain ⟨b, o, rfl, hb⟩ := W4.out ad rfl
              obtain ⟨A, hA⟩ : ∃ A : Addr, (if cap = q then some (⟨b, o, none⟩ : Addr) else some ⟨b, o + q * 2, none⟩) = some A := by by_cases e : cap = q <;> simp [e]
              have HD2 : Hid (∀ w', Below H wc w' → ∀ ad, some A = some ad → ∀ j u, (prs (s.L.drop q))[j]? = some u → w'.cell? (ad.add j) = some u) := fun w' bw ad hd j z hz => by
                have hz' := hz
                rw [← prs_drop, List.getElem?_drop] at hz
                have hjl : q * 2 + j < n * 2 := by have := (List.getElem?_eq_some_iff.1 hz).1; rwa [prs_len, HN.out] at this
                rw [if_neg (by omega)] at hA
                rw [← hA] at hd
                injection hd with hd; subst hd
                rw [Addr.add_lit, Nat.add_assoc]
                exact (bw.cell (p := ⟨b, o + (q * 2 + j), none⟩) hb).trans (W5.out b o rfl _ z hz)
              have hqc : q ≤ cap := by omega
              go_wp2_with fail
              go_region_law (first | (refine appP_step rfl (some 92) rfl 30 46 (.string ⟨#[]⟩) 24 Try.underlying30 infoO (by decide) (by rfl) _ _ rfl H v8 (s.L.take q) rfl (by exact O9.out) (some ⟨nb, 0, none⟩) 1 1 [(k, .string x)] rfl rfl (fun h => (by cases h)) HP1.out hone1.out (by rw [HTL.out]; simp; omega) HH9.out ?_; intro v9 w9 o9 g9; have c010 := (g9.below.cell (p := ⟨R, 0, none⟩) hRc).trans c09; have B9 := HAL.out.trans g9.below; have hH10 := Nat.le_trans HH9.out g9.below.size) | (refine appP_step rfl (some 99) rfl 30 46 (.string ⟨#[]⟩) 24 Try.underlying30 infoO (by decide) (by rfl) _ _ rfl H v9 (s.L.take q ++ [(k, .string x)]) rfl (by exact o9) (some A) (n - q) (cap - q) (s.L.drop q) rfl HDL.out (fun h => (by cases h)) (HD2.out w9 B9) (hON.drop q) (by rw [List.length_append, HTL.out, HDL.out]; simp; omega) hH10 ?_; intro v11 w11 o11 g11))
              all_goals (go_wp2_with fail; go_meet; exact ⟨_, _, rfl, rfl, by rw [HLA.out]; exact o11, B9.trans g11.below⟩)
          case rest =>
            obtain ⟨v11, w11, rfl, rfl, o11, b11⟩ := hcut
            clear O9 HP1 c09 c09b hone1 HH9 HLA HAL HTL HDL c08 hnb O8 B8 hH8 hR8 W3 W4 W5
            have hll := laid_len s.L k (.string x)
            rw [HN.out] at hll
            have hnL : laid s.L k (.string x) ≠ [] := fun e => by rw [e] at hll; simp at hll
            obtain ⟨g, cap9, cur, rfl, hgH, _, hc9, hm9, _, _⟩ := o11.some_ hnL
            have hk0 := o11.key rfl (i := 0) (by omega)
            rw [Nat.zero_mul] at hk0
            rw [hll] at hc9 o11 ⊢
            have O11 : Hid (OwnP 46 w11 H (.slice (some ⟨g, 0, none⟩) (n + 1) cap9) (laid s.L k (.string x))) := o11
            have hB11 : Blk w11 R [.slice ao n cap, .int .i64 (s.M : Nat), .int .i64 s.F, .bool s.G] := R6.out.blk.low b11 hRc
            have C11 : Hid (Chg B R (.slice ao n cap) (.slice (some ⟨g, 0, none⟩) (n + 1) cap9) w w11) := C6.out.trans ⟨b11.mono (by omega), fun j hj _ _ => b11.block j (by omega), Or.inr ⟨g, rfl, by omega⟩⟩
            have hgR : g ≠ R := by omega
            have hOK := lay_ok R6.out.ok hk (.string x)
            have hNst : ¬ (untl s.L k = 0 ∧ s.L.length = s.M) := by rw [HU.out, HN.out, HM.out]; exact HST.out
            have HLL : Hid ((laid s.L k (.string x)).length = n + 1) := hll
            obtain ⟨z, hz⟩ : ∃ z, keyAt (laid s.L k (.string x)) 0 = z := ⟨_, rfl⟩
            rw [hz] at hk0
            have x0 := hB11.cell 0 _ rfl
            have x1 := hB11.cell 1 _ rfl
            have x2 := hB11.cell 2 _ rfl
            have x3 := hB11.cell 3 _ rfl
            have f0 := hB11.froz 0
            have f2 := hB11.froz 2
            rw [HM.out] at x1
            have HB11 : Hid (Blk w11 R [.slice ao n cap, .int .i64 (s.M : Nat), .int .i64 s.F, .bool s.G]) := hB11
            have hz0 : IntKind.i64.wrap ((n : Int) + 1) = (n : Int) + 1 := by rw [IntKind.wrap_i64]; omega
            clear o11 hll hnL b11 hB11 c0 c1
            by_cases hfi : n < M
            · have E := lay_fit (x := .string x) HAT.out (by rw [HN.out, HM.out]; exact hfi)
              have HE1 : Hid _ := E.1
              have HE2 : Hid _ := E.2
              have d1 : decide ((n : Int) + 1 ≤ (M : Int)) = true := by simp; omega
              have d2 : n + 1 ≤ M := by omega
              obtain ⟨W, hW⟩ : ∃ W, w11.setCell ⟨R, 0, none⟩ (.slice (some ⟨g, 0, none⟩) (n + 1) cap9) = W := ⟨_, rfl⟩
              have BW : Hid (Blk W R [.slice (some ⟨g, 0, none⟩) (n + 1) cap9, .int .i64 (s.M : Nat), .int .i64 s.F, .bool s.G]) := by show Blk W R _; rw [← hW]; exact HB11.out.set 0 _ (by simp)
              have OW : Hid (OwnP 46 W H (.slice (some ⟨g, 0, none⟩) (n + 1) cap9) (laid s.L k (.string x))) := by show OwnP _ W _ _ _; rw [← hW]; exact O11.out.kept (grown_set w11 R 0 _) (Or.inr (fun e => hgR (by injection e)))
              have CW : Hid (Chg B R (.slice ao n cap) (.slice (some ⟨g, 0, none⟩) (n + 1) cap9) w W) := by show Chg _ _ _ _ _ W; rw [← hW]; exact C11.out.trans (Chg.set hBR)
              clear E
              go_wp2_with fail
              go_ret3
              rw [HE1.out, HN.out]
              refine ⟨rfl, _, ?_, CW.out⟩
              rw [HE2.out] at hOK ⊢
              exact ⟨BW.out, RdP.of_own OW.out, hOK, hON.laid k rfl, fun e => hgR (by injection e with e; exact e.symm), hBR⟩
            · have E := lay_full (x := .string x) HAT.out hNst (by rw [HN.out, HM.out]; exact hfi)
              rw [hz] at E
              have HE1 : Hid _ := E.1
              have HE2 : Hid _ := E.2
              have d1 : decide ((n : Int) + 1 ≤ (M : Int)) = false := by simp; omega
              have d2 : ¬ (n + 1 ≤ M) := by omega
              obtain ⟨W13, hW13⟩ : ∃ W, w11.setCell ⟨R, 2, none⟩ (.int .i64 z) = W := ⟨_, rfl⟩
              have B13 : Blk W13 R [.slice ao n cap, .int .i64 (s.M : Nat), .int .i64 z, .bool s.G] := by rw [← hW13]; exact HB11.out.set 2 _ (by simp)
              have y3 := B13.cell 3 _ rfl
              have h3 := B13.froz 3
              obtain ⟨W14, hW14⟩ : ∃ W, W13.setCell ⟨R, 3, none⟩ (.bool true) = W := ⟨_, rfl⟩
              have B14 : Blk W14 R [.slice ao n cap, .int .i64 (s.M : Nat), .int .i64 z, .bool true] := by rw [← hW14]; exact B13.set 3 _ (by simp)
              have y0 := B14.cell 0 _ rfl
              have h0 := B14.froz 0
              obtain ⟨A, hA⟩ : ∃ A : Addr, (if cap9 = 1 then some (⟨g, 0, none⟩ : Addr) else some ⟨g, 2, none⟩) = some A := by by_cases e : cap9 = 1 <;> simp [e]
              obtain ⟨W15, hW15⟩ : ∃ W, W14.setCell ⟨R, 0, none⟩ (.slice (some A) n (cap9 - 1)) = W := ⟨_, rfl⟩
              have B15 : Blk W15 R [.slice (some A) n (cap9 - 1), .int .i64 (s.M : Nat), .int .i64 z, .bool true] := by rw [← hW15]; exact B14.set 0 _ (by simp)
              have y2 := B15.cell 2 _ rfl
              have OW : Hid (OwnP 46 W15 H (.slice (some ⟨g, 0, none⟩) (n + 1) cap9) (laid s.L k (.string x))) := by
                show OwnP _ W15 _ _ _
                rw [← hW15, ← hW14, ← hW13]
                exact ((O11.out.kept (grown_set w11 R 2 _) (Or.inr (fun e => hgR (by injection e)))).kept (grown_set _ R 3 _) (Or.inr (fun e => hgR (by injection e)))).kept (grown_set _ R 0 _) (Or.inr (fun e => hgR (by injection e)))
              have hAg : A.block = g := by
                split at hA <;> (injection hA with hA; rw [← hA])
              have CW : Hid (Chg B R (.slice ao n cap) (.slice (some A) n (cap9 - 1)) w W15) := by
                have c := ((C11.out.trans (Chg.set (o := 2) (u := .int .i64 z) hBR)).trans (Chg.set (o := 3) (u := .bool true) hBR)).trans (Chg.set (o := 0) (u := .slice (some A) n (cap9 - 1)) hBR)
                rw [hW13, hW14, hW15] at c
                exact ⟨c.below, c.block, by
                  have e : (Value.slice (some A) n (cap9 - 1)).ownBlock = (Value.slice (some ⟨g, 0, none⟩) (n + 1) cap9).ownBlock := by show some A.block = some g; rw [hAg]
                  rw [e]; exact c.own⟩
              have HA : Hid (some A = if cap9 = 1 then some (⟨g, 0, none⟩ : Addr) else some ⟨g, 2, none⟩) := hA.symm
              have HB15 : Hid (Blk W15 R [.slice (some A) n (cap9 - 1), .int .i64 (s.M : Nat), .int .i64 z, .bool true]) := B15
              have HAg : Hid (A.block = g) := hAg
              have h1c : 1 ≤ cap9 := by omega
              have hzg : Hid (keyAt (laid s.L k (.string x)) 0 = z) := hz
              clear E B13 B14 B15 hAg hz
              go_wp2_with fail
              go_ret3
              rw [HE1.out, HN.out]
              refine ⟨rfl, _, ?_, CW.out⟩
              rw [HE2.out] at hOK ⊢
              exact ⟨HB15.out, RdP.tail_own OW.out HLL.out _ HA.out, hOK, (hON.laid k rfl).tail, fun e => hgR (by have e' : some R = some A.block := e; injection e' with e'; rw [HAg.out] at e'; exact e'.symm), hBR⟩
end Go.Proofs.Ytfpngbeomgfmfaa
