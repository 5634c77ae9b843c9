/-
  Proved: of any bytes that come, each answer of a store is the document's own, and so is what is kept, and all counts (the law StoreAccepts answers true at every input).
  Conditions: none.
-/
import Derived.Test.YtlpdhglibgnkoaaGreatRows
import Derived.Test.YtlpdhglibgnkoaaGreatP37
namespace Go.Proofs.YtlpdhglibgnkoaaGreat
open Go.ChangeShapes Go.WideShapes Go.ChangeAt Go.RowKit
set_option linter.unusedVariables false

namespace StoreAcceptsL
theorem own : ownKnob Tryz.prog.godebug = none := by kernel_rfl

set_option maxRecDepth 20000 in
set_option maxHeartbeats 16000000 in
theorem walk (w : World) (n : Int) (hn : (Lit.int .i64 n).wf = true) (va : Value) (m : Nat) (L : Nat → List Int) (hb : ∀ i, i < m → Bytes (L i)) (hl : RdBB w va m L) (hz : ∀ i, i < m → (L i).length ≤ 140737488351232) :
    Calls Tryz.prog 3 #[.int .i64 n, va] w fun e w' => e = .returned (.bool true) ∧ Below w.heap.size w w' := by
  have HL : Hid (RdBB w va m L) := hl
  have HBY : Hid (∀ i, i < m → Bytes (L i)) := hb
  have HNO : Hid (greatB L m = false → m ≤ 60 ∧ ∀ i, i < m → (L i).length ≤ 20000) := great_no hz
  obtain ⟨ao, cap, rfl, h1, h2, h3⟩ := hl
  have P3 : Hid _ := h3
  clear hn hb h3 hz
  obtain ⟨H, hH⟩ : ∃ H, w.heap.size = H := ⟨_, rfl⟩
  have HH : Hid (w.heap.size = H) := hH
  obtain ⟨hmo1, hmo2⟩ := most_bd n
  obtain ⟨M, hMe⟩ : ∃ M, mostN n = M := ⟨_, rfl⟩
  have HMO : Hid (∀ w', Calls Tryz.prog 5 #[.int .i64 n] w' fun e w'' => e = .returned (.int .i64 (M : Nat)) ∧ w'' = w') := fun w' => by have := most_any w' n; rw [hMe] at this; exact this
  rw [hMe] at hmo1 hmo2
  clear hMe
  go_enter Tryz.func3, Tryz.ntmps3
  go_wp2_with fail
  refine (HMO.out _).mono ?_; rintro e w1 ⟨rfl, rfl⟩
  go_wp2_with fail
  refine (st_new _ M hmo1 hmo2).mono ?_; rintro e w2 ⟨rfl, s2, b2⟩
  rw [hH] at s2 b2
  rw [hH]
  obtain ⟨S, hS⟩ : ∃ S, H + 1 = S := ⟨_, rfl⟩
  rw [hS] at s2 ⊢
  have V2 : Hid (StoV w2 H S H (.slice none 0 0) (emptyR M) (emptyS M)) := s2
  have B2 : Hid (Below H w1 w2) := b2
  have hz2 : H ≤ w2.heap.size := by have := b2.size; omega
  clear s2 b2 hH hS
  go_wp2_with fail
  refine (st_alive _).mono ?_; rintro e w3 ⟨rfl, b3⟩
  have V3 : Hid (StoV w3 H S H (.slice none 0 0) (emptyR M) (emptyS M)) := V2.out.below b3
  have B3 : Hid (Below H w1 w3) := B2.out.trans (b3.mono hz2)
  have hz3 : H ≤ w3.heap.size := Nat.le_trans hz2 b3.size
  clear V2 B2 hz2 b3
  have HRB : Hid (RdBB w3 (.slice ao m cap) m L) := by
    obtain ⟨ao', cap', e, q1, q2, q3⟩ := HL.out
    refine ⟨ao', cap', e, q1, q2, ?_⟩
    rcases q3 with q | ⟨b, o, q, hat⟩
    · exact Or.inl q
    · by_cases h0 : m = 0
      · exact Or.inl h0
      · refine Or.inr ⟨b, o, q, fun i hi => ?_⟩
        obtain ⟨u, c0, hr⟩ := hat i hi
        have hb0 : b < H := by have := World.block_lt_of_cell? w1 _ c0; have := HH.out; simp only at *; omega
        exact ⟨u, (B3.out.cell (p := ⟨b, o + i, none⟩) hb0).trans c0, hr.below (by rw [HH.out]; exact B3.out)⟩
  go_wp2_with fail
  refine (st_great _ _ m L HRB.out).mono ?_; rintro e w4 ⟨rfl, rfl⟩
  cases hgr : greatB L m with
  | true =>
    go_wp2_with fail
    refine (st_alive _).mono ?_; rintro e w5 ⟨rfl, b5⟩
    have B5 : Hid (Below H w1 w5) := B3.out.trans (b5.mono hz3)
    clear b5
    go_wp2_with fail
    go_ret
    exact ⟨rfl, by rw [HH.out]; exact B5.out⟩
  | false =>
  obtain ⟨hm60, hlen⟩ := HNO.out hgr
  have HLN : Hid (∀ i, i < m → (L i).length ≤ 20000) := hlen
  clear hlen hgr HRB HNO
  go_wp2_with fail
  refine (HMO.out _).mono ?_; rintro e w5 ⟨rfl, rfl⟩
  go_wp2_with fail
  refine (rf_new _ M).mono ?_; rintro e w6 ⟨rfl, r6, b6, z6⟩
  obtain ⟨Kr, hKr⟩ : ∃ x, w5.heap.size = x := ⟨_, rfl⟩
  have hSK : S < Kr ∧ H < Kr := ⟨by rw [← hKr]; exact V3.out.blk.lt, by rw [← hKr]; exact V3.out.rng.blk.lt⟩
  have V6 : Hid (StoV w6 H S H (.slice none 0 0) (emptyR M) (emptyS M)) := V3.out.below b6
  have B6 : Hid (Below H w1 w6) := B3.out.trans (b6.mono hz3)
  have R6 : Hid (RefS w6 Kr (.slice none 0 0) (-1) (emptyS M)) := by show RefS _ _ _ _ _; rw [← hKr]; exact r6
  rw [hKr]
  clear V3 B3 hz3 r6 b6 z6 hKr
  go_wp2_with fail
  go_loopg [55] m (fun g i wr => ∃ (k : Nat) (v : Value) (rs : Rs) (s : Sto) (u : Value) (fl : Int), k + g = m ∧ i = .int .i64 k ∧ StoV wr H S H v rs s ∧ RefS wr Kr u fl s ∧ s.M = M ∧ Few s.L ∧ Gd s.L ∧ Below H w1 wr)
  case atStart => exact ⟨0, _, _, _, _, _, by omega, rfl, V6.out, R6.out, rfl, (fun y hy => by cases hy), Gd.nil, B6.out⟩
  case round =>
    as_aux_lemma =>
      clear V6 B6 R6
      obtain ⟨k, v, rs, s, u, fl, hk, rfl, hsv, hrf, hsm, hfew, hgd, hbl⟩ := hrel
      have V4 : Hid (StoV wr H S H v rs s) := hsv
      have R4 : Hid (RefS wr Kr u fl s) := hrf
      have SM : Hid (s.M = M) := hsm
      have FW : Hid (Few s.L) := hfew
      have GD : Hid (Gd s.L) := hgd
      have B4 : Hid (Below H w1 wr) := hbl
      have hz4 : H ≤ wr.heap.size := by have := hbl.size; have := HH.out; omega
      clear hsv hrf hsm hfew hgd hbl
      by_cases hlt : k < m
      · obtain ⟨b, o, rfl, hat⟩ := P3.out.resolve_left (by omega)
        obtain ⟨ub, c0, hr⟩ := hat k hlt
        have hb0 : b < H := by have := World.block_lt_of_cell? w1 _ c0; have := HH.out; simp only at *; omega
        have e0 := (B4.out.cell (p := ⟨b, o + k, none⟩) hb0).trans c0
        have RU : Hid (Rd w1 ub (L k)) := hr
        have hby := HBY.out k hlt
        have hln := HLN.out k hlt
        obtain ⟨l, hll⟩ : ∃ l, L k = l := ⟨_, rfl⟩
        rw [hll] at RU hby hln
        have BY : Hid (Bytes l) := hby
        obtain ⟨ao2, cp2, rfl, -⟩ := RU.out
        obtain ⟨q0, hq⟩ : ∃ q, l.length = q := ⟨_, rfl⟩
        rw [hq] at e0 RU hln
        have LN : Hid (l.length ≤ 20000) := by show l.length ≤ 20000; rw [hq]; exact hln
        have hlens := V4.out.lens
        have hnum := V4.out.num
        have hrise := V4.out.rise
        have AC : Hid (Calls Tryz.prog 9 #[.pointer (some ⟨S, 0, none⟩), .slice ao2 q0 cp2] wr fun e w'' => e = .returned (.tuple #[.int .i64 (tkT s l), .int .i64 (tkE s l)]) ∧ ∃ v' rs', StoV w'' H S H v' rs' (accS s l) ∧ Chs H S H v v' wr w'') := st_accept wr H S H v rs s V4.out (by have := SM.out; omega) _ l BY.out (by have := LN.out; omega) (RU.out.below (by rw [HH.out]; exact B4.out))
        have RC : Hid (∀ w', RefS w' Kr u fl s → Below H w1 w' → Calls Tryz.prog 10 #[.pointer (some ⟨Kr, 0, none⟩), .slice ao2 q0 cp2] w' fun e w'' => e = .returned (.tuple #[.int .i64 (tkT s l), .int .i64 (tkE s l)]) ∧ ∃ v' fl', RefS w'' Kr v' fl' (accS s l) ∧ Ch Kr w' w'') := fun w' h hb => rf_Accept w' Kr u fl s h hnum hrise GD.out hlens.1 (by have := SM.out; omega) _ l BY.out (by have := LN.out; omega) (RU.out.below (by rw [HH.out]; exact hb))
        have GD5 : Hid (Gd (accS s l).L) := gd_tk GD.out
        have F5 : Hid (Few (accS s l).L) := few_tk FW.out
        have SM5 : Hid ((accS s l).M = M) := SM.out
        have eb := eb_acc s l
        obtain ⟨e, hte⟩ : ∃ e : Nat, tkE s l = e := ⟨(tkE s l).toNat, by have := eb.1; omega⟩
        have he18 : e < 18 := by have := eb.2; omega
        obtain ⟨TT, hTT⟩ : ∃ x, tkT s l = x := ⟨_, rfl⟩
        obtain ⟨s5, hs5⟩ : ∃ s5, accS s l = s5 := ⟨_, rfl⟩
        rw [hte, hTT, hs5] at AC
        rw [hte, hTT, hs5] at RC
        rw [hs5] at GD5 F5 SM5
        clear c0 hr hat hby hln hll hq hlens hnum hrise GD FW SM eb hte hTT hs5
        go_wp2_with fail
        refine AC.out.mono ?_; rintro e' w5 ⟨rfl, v5, rs5, sv5, c5⟩
        have R5 : Hid (RefS w5 Kr u fl s) := R4.out.chs V4.out c5 hSK.1 hSK.2
        have V5 : Hid (StoV w5 H S H v5 rs5 s5) := sv5
        have B5 : Hid (Below H w1 w5) := B4.out.trans c5.below
        clear sv5 c5 R4 V4 B4 hz4 e0 AC
        go_wp2_with fail
        refine (RC.out w5 R5.out B5.out).mono ?_; rintro e' w7 ⟨rfl, u7, fl7, r7, c7⟩
        have V7 : Hid (StoV w7 H S H v5 rs5 s5) := V5.out.chK R5.out.typ (by omega) (by omega) c7
        have R7 : Hid (RefS w7 Kr u7 fl7 s5) := r7
        have B7 : Hid (Below H w1 w7) := Ch.up B5.out c7 (by omega)
        clear r7 c7 R5 V5 B5 RC
        obtain ⟨Zr, hzr, htr⟩ := R7.out.row
        obtain ⟨ar, kr, rfl, -, -, -, -, -⟩ := hzr
        obtain ⟨n5, hn5⟩ : ∃ x, s5.L.length = x := ⟨_, rfl⟩
        have hzn : Zr.length = n5 := htr.len.trans hn5
        rw [hzn] at R7
        obtain ⟨N0, hN0⟩ : ∃ x, s5.N.getD 0 0 = x := ⟨_, rfl⟩
        obtain ⟨Ne, hNe⟩ : ∃ x, s5.N.getD e 0 = x := ⟨_, rfl⟩
        have k0 := R7.out.blk.cell 0 _ rfl
        have k3 := (R7.out.count V7.out.num 0 (by omega)).1
        have ke := (R7.out.count V7.out.num e he18).1
        rw [hN0, Nat.add_zero] at k3
        rw [hNe] at ke
        have V7d : Hid (StoV w7.drew H S H v5 rs5 s5) := V7.out.below (Below.refl _ _).drew
        have LEN : Hid (Calls Tryz.prog 11 #[.pointer (some ⟨S, 0, none⟩)] w7.drew fun e w' => e = .returned (.int .i64 (n5 : Nat)) ∧ w' = w7.drew) := by
          have := st_len w7.drew H S H v5 rs5 s5 V7d.out; rw [hn5] at this; exact this
        have TAK : Hid (Calls Tryz.prog 12 #[.pointer (some ⟨S, 0, none⟩)] w7.drew fun e w' => e = .returned (.int .i64 N0) ∧ w' = w7.drew) := by
          have := st_taken w7.drew H S H v5 rs5 s5 V7d.out; rw [hN0] at this; exact this
        have RF0 : Hid (Calls Tryz.prog 13 #[.pointer (some ⟨S, 0, none⟩), .int .i64 0] w7.drew fun e w' => e = .returned (.int .i64 0) ∧ w' = w7.drew) := st_refused_out w7.drew S 0 (Or.inl (by omega))
        have RFE : Hid (0 < e → Calls Tryz.prog 13 #[.pointer (some ⟨S, 0, none⟩), .int .i64 (e : Nat)] w7.drew fun e w' => e = .returned (.int .i64 Ne) ∧ w' = w7.drew) := fun h0 => by
          have := st_refused w7.drew H S H v5 rs5 s5 V7d.out e h0 he18; rw [hNe] at this; exact this
        have d1 : decide ((0 : Int) ≤ (e : Int)) = true := by simp
        have d2 : decide ((e : Int) < 18) = true := by simp; omega
        have d3 : (e : Int) < 18 := by omega
        clear htr hzn hn5 hN0 hNe V7d
        go_upto_region 10 with fail
        go_cut [114] (fun b wx => b = .bool false ∧ Below w7.heap.size w7 wx)
        case first =>
          as_aux_lemma =>
            by_cases he0 : e = 0
            · subst he0
              rw [Nat.add_zero] at ke
              obtain rfl : N0 = Ne := by rw [k3] at ke; injection ke with ke; injection ke
              by_cases hN : N0 = 0
              · subst hN
                have k0d : w7.drew.cell? ⟨Kr, 0, none⟩ = some (.slice ar n5 kr) := k0
                have k3d : w7.drew.cell? ⟨Kr, 3, none⟩ = some (.int .i64 0) := k3
                have ked : w7.drew.cell? ⟨Kr, 3, none⟩ = some (.int .i64 0) := ke
                have BD : Hid (Below w7.heap.size w7 w7.drew) := (Below.refl _ _).drew
                refine wp_region_held_drew (S := fun w' => w' = w7.drew) (by kernel_rfl) rfl (fun _ => ?_)
                generalize w7.drew = WD at k0d k3d ked BD LEN TAK RF0 ⊢
                refine takeH_to (i := 0) (d := some 71) (v := .int .i64 TT) rfl rfl (by kernel_rfl) (by kernel_rfl) (by kernel_rfl) (fun _ _ _ h => h) (Or.inl ⟨by rfl, fun w hw => by subst hw; go_simp⟩) rfl ?_
                simp only [Act.put, List.setIfInBounds_toArray, List.set_cons_zero, List.set_cons_succ]
                refine takeH_to (i := 1) (d := some 72) (v := .int .i64 TT) rfl rfl (by kernel_rfl) (by kernel_rfl) (by kernel_rfl) (fun _ _ _ h => h) (Or.inl ⟨by rfl, fun w hw => by subst hw; go_simp⟩) rfl ?_
                simp only [Act.put, List.setIfInBounds_toArray, List.set_cons_zero, List.set_cons_succ]
                refine takeH_to (i := 2) (d := some 73) (v := .bool false) rfl rfl (by kernel_rfl) (by kernel_rfl) (by kernel_rfl) (fun _ _ _ h => h) (Or.inl ⟨by rfl, fun w hw => by subst hw; go_simp⟩) rfl ?_
                simp only [Act.put, List.setIfInBounds_toArray, List.set_cons_zero, List.set_cons_succ]
                refine takeH_to (i := 3) (d := some 74) (v := .bool false) rfl rfl (by kernel_rfl) (by kernel_rfl) (by kernel_rfl) (fun _ _ _ h => h) (Or.inl ⟨by rfl, fun w hw => by subst hw; go_simp⟩) rfl ?_
                simp only [Act.put, List.setIfInBounds_toArray, List.set_cons_zero, List.set_cons_succ]
                refine takeH_to (i := 4) (d := some 75) (v := .int .i64 0) rfl rfl (by kernel_rfl) (by kernel_rfl) (by kernel_rfl) (fun _ _ _ h => h) (Or.inl ⟨by rfl, fun w hw => by subst hw; go_simp⟩) rfl ?_
                simp only [Act.put, List.setIfInBounds_toArray, List.set_cons_zero, List.set_cons_succ]
                refine takeH_to (i := 5) (d := some 76) (v := .int .i64 0) rfl rfl (by kernel_rfl) (by kernel_rfl) (by kernel_rfl) (fun _ _ _ h => h) (Or.inl ⟨by rfl, fun w hw => by subst hw; go_simp⟩) rfl ?_
                simp only [Act.put, List.setIfInBounds_toArray, List.set_cons_zero, List.set_cons_succ]
                refine takeH_to (i := 6) (d := some 77) (v := .bool false) rfl rfl (by kernel_rfl) (by kernel_rfl) (by kernel_rfl) (fun _ _ _ h => h) (Or.inl ⟨by rfl, fun w hw => by subst hw; go_simp⟩) rfl ?_
                simp only [Act.put, List.setIfInBounds_toArray, List.set_cons_zero, List.set_cons_succ]
                refine takeH_to (i := 7) (d := some 78) (v := .bool false) rfl rfl (by kernel_rfl) (by kernel_rfl) (by kernel_rfl) (fun _ _ _ h => h) (Or.inl ⟨by rfl, fun w hw => by subst hw; go_simp⟩) rfl ?_
                simp only [Act.put, List.setIfInBounds_toArray, List.set_cons_zero, List.set_cons_succ]
                refine takeH_to (i := 8) (d := some 79) (v := .bool false) rfl rfl (by kernel_rfl) (by kernel_rfl) (by kernel_rfl) (fun _ _ _ h => h) (Or.inl ⟨by rfl, fun w hw => by subst hw; go_simp⟩) rfl ?_
                simp only [Act.put, List.setIfInBounds_toArray, List.set_cons_zero, List.set_cons_succ]
                refine takeH_to (i := 9) (d := some 80) (v := .pointer (some ⟨S, 0, none⟩)) rfl rfl (by kernel_rfl) (by kernel_rfl) (by kernel_rfl) (fun _ _ _ h => h) (Or.inl ⟨by rfl, fun w hw => by subst hw; go_simp⟩) rfl ?_
                simp only [Act.put, List.setIfInBounds_toArray, List.set_cons_zero, List.set_cons_succ]
                refine takeH_to (i := 11) (d := some 82) (v := .pointer (some ⟨Kr, 0, none⟩)) rfl rfl (by kernel_rfl) (by kernel_rfl) (by kernel_rfl) (fun _ _ _ h => h) (Or.inl ⟨by rfl, fun w hw => by subst hw; go_simp⟩) rfl ?_
                simp only [Act.put, List.setIfInBounds_toArray, List.set_cons_zero, List.set_cons_succ]
                refine takeH_to (i := 12) (d := some 83) (v := .pointer (some ⟨Kr, 0, none⟩)) rfl rfl (by kernel_rfl) (by kernel_rfl) (by kernel_rfl) (fun _ _ _ h => h) (Or.inl ⟨by rfl, fun w hw => by subst hw; go_simp⟩) rfl ?_
                simp only [Act.put, List.setIfInBounds_toArray, List.set_cons_zero, List.set_cons_succ]
                refine takeH_to (i := 13) (d := some 84) (v := .pointer (some ⟨Kr, 0, none⟩)) rfl rfl (by kernel_rfl) (by kernel_rfl) (by kernel_rfl) (fun _ _ _ h => h) (Or.inl ⟨by rfl, fun w hw => by subst hw; go_simp⟩) rfl ?_
                simp only [Act.put, List.setIfInBounds_toArray, List.set_cons_zero, List.set_cons_succ]
                refine takeH_to (i := 14) (d := some 85) (v := .slice ar n5 kr) rfl rfl (by kernel_rfl) (by kernel_rfl) (by kernel_rfl) (fun _ _ _ h => h) (Or.inl ⟨by rfl, fun w hw => by subst hw; go_simp⟩) rfl ?_
                simp only [Act.put, List.setIfInBounds_toArray, List.set_cons_zero, List.set_cons_succ]
                refine takeH_to (i := 15) (d := some 86) (v := .int .i64 (n5 : Nat)) rfl rfl (by kernel_rfl) (by kernel_rfl) (by kernel_rfl) (fun _ _ _ h => h) (Or.inl ⟨by rfl, fun w hw => by subst hw; go_simp⟩) rfl ?_
                simp only [Act.put, List.setIfInBounds_toArray, List.set_cons_zero, List.set_cons_succ]
                refine wpAnyH_ready (rs := [10]) (by kernel_rfl) (by simp) ?_
                refine AllReadyH.cons rfl (fun K hK => ?_) AllReadyH.nil
                go_simp
                go_wp2_with (go_at_call 11; refine (LEN.out).mono ?_; rintro e' w' ⟨rfl, rfl⟩)
                refine hK.out _ _ rfl (fun _ => ?_)
                clear hK K
                refine takeH_to (i := 16) (d := some 87) (v := .bool false) rfl rfl (by kernel_rfl) (by kernel_rfl) (by kernel_rfl) (fun _ _ _ h => h) (Or.inl ⟨by rfl, fun w hw => by subst hw; go_simp⟩) rfl ?_
                simp only [Act.put, List.setIfInBounds_toArray, List.set_cons_zero, List.set_cons_succ]
                refine takeH_to (i := 17) (d := some 88) (v := .bool false) rfl rfl (by kernel_rfl) (by kernel_rfl) (by kernel_rfl) (fun _ _ _ h => h) (Or.inl ⟨by rfl, fun w hw => by subst hw; go_simp⟩) rfl ?_
                simp only [Act.put, List.setIfInBounds_toArray, List.set_cons_zero, List.set_cons_succ]
                refine takeH_to (i := 18) (d := some 89) (v := .bool false) rfl rfl (by kernel_rfl) (by kernel_rfl) (by kernel_rfl) (fun _ _ _ h => h) (Or.inl ⟨by rfl, fun w hw => by subst hw; go_simp⟩) rfl ?_
                simp only [Act.put, List.setIfInBounds_toArray, List.set_cons_zero, List.set_cons_succ]
                refine takeH_to (i := 19) (d := some 90) (v := .pointer (some ⟨S, 0, none⟩)) rfl rfl (by kernel_rfl) (by kernel_rfl) (by kernel_rfl) (fun _ _ _ h => h) (Or.inl ⟨by rfl, fun w hw => by subst hw; go_simp⟩) rfl ?_
                simp only [Act.put, List.setIfInBounds_toArray, List.set_cons_zero, List.set_cons_succ]
                refine takeH_to (i := 21) (d := some 92) (v := .pointer (some ⟨Kr, 0, none⟩)) rfl rfl (by kernel_rfl) (by kernel_rfl) (by kernel_rfl) (fun _ _ _ h => h) (Or.inl ⟨by rfl, fun w hw => by subst hw; go_simp⟩) rfl ?_
                simp only [Act.put, List.setIfInBounds_toArray, List.set_cons_zero, List.set_cons_succ]
                refine takeH_to (i := 22) (d := some 93) (v := .pointer (some ⟨Kr, 0, none⟩)) rfl rfl (by kernel_rfl) (by kernel_rfl) (by kernel_rfl) (fun _ _ _ h => h) (Or.inl ⟨by rfl, fun w hw => by subst hw; go_simp⟩) rfl ?_
                simp only [Act.put, List.setIfInBounds_toArray, List.set_cons_zero, List.set_cons_succ]
                refine takeH_to (i := 23) (d := some 94) (v := .pointer (some ⟨Kr, 3, none⟩)) rfl rfl (by kernel_rfl) (by kernel_rfl) (by kernel_rfl) (fun _ _ _ h => h) (Or.inl ⟨by rfl, fun w hw => by subst hw; go_simp⟩) rfl ?_
                simp only [Act.put, List.setIfInBounds_toArray, List.set_cons_zero, List.set_cons_succ]
                refine takeH_to (i := 24) (d := some 95) (v := .pointer (some ⟨Kr, 3, none⟩)) rfl rfl (by kernel_rfl) (by kernel_rfl) (by kernel_rfl) (fun _ _ _ h => h) (Or.inl ⟨by rfl, fun w hw => by subst hw; go_simp⟩) rfl ?_
                simp only [Act.put, List.setIfInBounds_toArray, List.set_cons_zero, List.set_cons_succ]
                refine takeH_to (i := 25) (d := some 96) (v := .int .i64 0) rfl rfl (by kernel_rfl) (by kernel_rfl) (by kernel_rfl) (fun _ _ _ h => h) (Or.inl ⟨by rfl, fun w hw => by subst hw; go_simp⟩) rfl ?_
                simp only [Act.put, List.setIfInBounds_toArray, List.set_cons_zero, List.set_cons_succ]
                refine wpAnyH_ready (rs := [20]) (by kernel_rfl) (by simp) ?_
                refine AllReadyH.cons rfl (fun K hK => ?_) AllReadyH.nil
                go_simp
                go_wp2_with (go_at_call 12; refine (TAK.out).mono ?_; rintro e' w' ⟨rfl, rfl⟩)
                refine hK.out _ _ rfl (fun _ => ?_)
                clear hK K
                refine takeH_to (i := 26) (d := some 97) (v := .bool false) rfl rfl (by kernel_rfl) (by kernel_rfl) (by kernel_rfl) (fun _ _ _ h => h) (Or.inl ⟨by rfl, fun w hw => by subst hw; go_simp⟩) rfl ?_
                simp only [Act.put, List.setIfInBounds_toArray, List.set_cons_zero, List.set_cons_succ]
                refine takeH_to (i := 27) (d := some 98) (v := .bool false) rfl rfl (by kernel_rfl) (by kernel_rfl) (by kernel_rfl) (fun _ _ _ h => h) (Or.inl ⟨by rfl, fun w hw => by subst hw; go_simp⟩) rfl ?_
                simp only [Act.put, List.setIfInBounds_toArray, List.set_cons_zero, List.set_cons_succ]
                refine takeH_to (i := 28) (d := some 99) (v := .bool false) rfl rfl (by kernel_rfl) (by kernel_rfl) (by kernel_rfl) (fun _ _ _ h => h) (Or.inl ⟨by rfl, fun w hw => by subst hw; go_simp⟩) rfl ?_
                simp only [Act.put, List.setIfInBounds_toArray, List.set_cons_zero, List.set_cons_succ]
                refine takeH_to (i := 29) (d := some 100) (v := .pointer (some ⟨S, 0, none⟩)) rfl rfl (by kernel_rfl) (by kernel_rfl) (by kernel_rfl) (fun _ _ _ h => h) (Or.inl ⟨by rfl, fun w hw => by subst hw; go_simp⟩) rfl ?_
                simp only [Act.put, List.setIfInBounds_toArray, List.set_cons_zero, List.set_cons_succ]
                refine takeH_to (i := 30) (d := some 101) (v := .int .i64 0) rfl rfl (by kernel_rfl) (by kernel_rfl) (by kernel_rfl) (fun _ _ _ h => h) (Or.inl ⟨by rfl, fun w hw => by subst hw; go_simp⟩) rfl ?_
                simp only [Act.put, List.setIfInBounds_toArray, List.set_cons_zero, List.set_cons_succ]
                refine takeH_to (i := 32) (d := some 103) (v := .pointer (some ⟨Kr, 0, none⟩)) rfl rfl (by kernel_rfl) (by kernel_rfl) (by kernel_rfl) (fun _ _ _ h => h) (Or.inl ⟨by rfl, fun w hw => by subst hw; go_simp⟩) rfl ?_
                simp only [Act.put, List.setIfInBounds_toArray, List.set_cons_zero, List.set_cons_succ]
                refine takeH_to (i := 33) (d := some 104) (v := .int .i64 0) rfl rfl (by kernel_rfl) (by kernel_rfl) (by kernel_rfl) (fun _ _ _ h => h) (Or.inl ⟨by rfl, fun w hw => by subst hw; go_simp⟩) rfl ?_
                simp only [Act.put, List.setIfInBounds_toArray, List.set_cons_zero, List.set_cons_succ]
                refine takeH_to (i := 34) (d := some 105) (v := .pointer (some ⟨Kr, 0, none⟩)) rfl rfl (by kernel_rfl) (by kernel_rfl) (by kernel_rfl) (fun _ _ _ h => h) (Or.inl ⟨by rfl, fun w hw => by subst hw; go_simp⟩) rfl ?_
                simp only [Act.put, List.setIfInBounds_toArray, List.set_cons_zero, List.set_cons_succ]
                refine takeH_to (i := 35) (d := some 106) (v := .pointer (some ⟨Kr, 3, none⟩)) rfl rfl (by kernel_rfl) (by kernel_rfl) (by kernel_rfl) (fun _ _ _ h => h) (Or.inl ⟨by rfl, fun w hw => by subst hw; go_simp⟩) rfl ?_
                simp only [Act.put, List.setIfInBounds_toArray, List.set_cons_zero, List.set_cons_succ]
                refine takeH_to (i := 36) (d := some 107) (v := .pointer (some ⟨Kr, 3, none⟩)) rfl rfl (by kernel_rfl) (by kernel_rfl) (by kernel_rfl) (fun _ _ _ h => h) (Or.inl ⟨by rfl, fun w hw => by subst hw; go_simp⟩) rfl ?_
                simp only [Act.put, List.setIfInBounds_toArray, List.set_cons_zero, List.set_cons_succ]
                refine takeH_to (i := 37) (d := some 108) (v := .int .i64 0) rfl rfl (by kernel_rfl) (by kernel_rfl) (by kernel_rfl) (fun _ _ _ h => h) (Or.inl ⟨by rfl, fun w hw => by subst hw; go_simp⟩) rfl ?_
                simp only [Act.put, List.setIfInBounds_toArray, List.set_cons_zero, List.set_cons_succ]
                refine wpAnyH_ready (rs := [31]) (by kernel_rfl) (by simp) ?_
                refine AllReadyH.cons rfl (fun K hK => ?_) AllReadyH.nil
                go_simp
                go_wp2_with (go_at_call 13; refine (RF0.out).mono ?_; rintro e' w' ⟨rfl, rfl⟩)
                refine hK.out _ _ rfl (fun _ => ?_)
                clear hK K
                refine takeH_to (i := 38) (d := some 109) (v := .bool false) rfl rfl (by kernel_rfl) (by kernel_rfl) (by kernel_rfl) (fun _ _ _ h => h) (Or.inl ⟨by rfl, fun w hw => by subst hw; go_simp⟩) rfl ?_
                simp only [Act.put, List.setIfInBounds_toArray, List.set_cons_zero, List.set_cons_succ]
                refine takeH_to (i := 39) (d := some 110) (v := .bool false) rfl rfl (by kernel_rfl) (by kernel_rfl) (by kernel_rfl) (fun _ _ _ h => h) (Or.inl ⟨by rfl, fun w hw => by subst hw; go_simp⟩) rfl ?_
                simp only [Act.put, List.setIfInBounds_toArray, List.set_cons_zero, List.set_cons_succ]
                refine takeH_to (i := 40) (d := some 111) (v := undef) rfl rfl (by kernel_rfl) (by kernel_rfl) (by kernel_rfl) (fun _ _ _ h => h) (Or.inr ⟨by rfl, rfl⟩) rfl ?_
                simp only [Act.put, List.setIfInBounds_toArray, List.set_cons_zero, List.set_cons_succ]
                refine takeH_to (i := 41) (d := some 112) (v := undef) rfl rfl (by kernel_rfl) (by kernel_rfl) (by kernel_rfl) (fun _ _ _ h => h) (Or.inr ⟨by rfl, rfl⟩) rfl ?_
                simp only [Act.put, List.setIfInBounds_toArray, List.set_cons_zero, List.set_cons_succ]
                refine takeH_to (i := 42) (d := some 113) (v := .bool false) rfl rfl (by kernel_rfl) (by kernel_rfl) (by kernel_rfl) (fun _ _ _ h => h) (Or.inl ⟨by rfl, fun w hw => by subst hw; go_simp⟩) rfl ?_
                simp only [Act.put, List.setIfInBounds_toArray, List.set_cons_zero, List.set_cons_succ]
                refine takeH_to (i := 43) (d := some 114) (v := .bool false) rfl rfl (by kernel_rfl) (by kernel_rfl) (by kernel_rfl) (fun _ _ _ h => h) (Or.inl ⟨by rfl, fun w hw => by subst hw; go_simp⟩) rfl ?_
                simp only [Act.put, List.setIfInBounds_toArray, List.set_cons_zero, List.set_cons_succ]
                refine wpAnyH_done (by kernel_rfl) ?_ _
                go_wp2_with fail
                go_meet
                exact ⟨rfl, BD.out⟩
              · have n1 : ((0 : Int) != N0) = true := by simp; omega
                have n2 : decide ((0 : Int) = N0) = false := by simp; omega
                have n3 : ¬ ((0 : Int) = N0) := by omega
                have k0d : w7.drew.cell? ⟨Kr, 0, none⟩ = some (.slice ar n5 kr) := k0
                have k3d : w7.drew.cell? ⟨Kr, 3, none⟩ = some (.int .i64 N0) := k3
                have ked : w7.drew.cell? ⟨Kr, 3, none⟩ = some (.int .i64 N0) := ke
                have BD : Hid (Below w7.heap.size w7 w7.drew) := (Below.refl _ _).drew
                refine wp_region_held_drew (S := fun w' => w' = w7.drew) (by kernel_rfl) rfl (fun _ => ?_)
                generalize w7.drew = WD at k0d k3d ked BD LEN TAK RF0 ⊢
                refine takeH_to (i := 0) (d := some 71) (v := .int .i64 TT) rfl rfl (by kernel_rfl) (by kernel_rfl) (by kernel_rfl) (fun _ _ _ h => h) (Or.inl ⟨by rfl, fun w hw => by subst hw; go_simp⟩) rfl ?_
                simp only [Act.put, List.setIfInBounds_toArray, List.set_cons_zero, List.set_cons_succ]
                refine takeH_to (i := 1) (d := some 72) (v := .int .i64 TT) rfl rfl (by kernel_rfl) (by kernel_rfl) (by kernel_rfl) (fun _ _ _ h => h) (Or.inl ⟨by rfl, fun w hw => by subst hw; go_simp⟩) rfl ?_
                simp only [Act.put, List.setIfInBounds_toArray, List.set_cons_zero, List.set_cons_succ]
                refine takeH_to (i := 2) (d := some 73) (v := .bool false) rfl rfl (by kernel_rfl) (by kernel_rfl) (by kernel_rfl) (fun _ _ _ h => h) (Or.inl ⟨by rfl, fun w hw => by subst hw; go_simp⟩) rfl ?_
                simp only [Act.put, List.setIfInBounds_toArray, List.set_cons_zero, List.set_cons_succ]
                refine takeH_to (i := 3) (d := some 74) (v := .bool false) rfl rfl (by kernel_rfl) (by kernel_rfl) (by kernel_rfl) (fun _ _ _ h => h) (Or.inl ⟨by rfl, fun w hw => by subst hw; go_simp⟩) rfl ?_
                simp only [Act.put, List.setIfInBounds_toArray, List.set_cons_zero, List.set_cons_succ]
                refine takeH_to (i := 4) (d := some 75) (v := .int .i64 0) rfl rfl (by kernel_rfl) (by kernel_rfl) (by kernel_rfl) (fun _ _ _ h => h) (Or.inl ⟨by rfl, fun w hw => by subst hw; go_simp⟩) rfl ?_
                simp only [Act.put, List.setIfInBounds_toArray, List.set_cons_zero, List.set_cons_succ]
                refine takeH_to (i := 5) (d := some 76) (v := .int .i64 0) rfl rfl (by kernel_rfl) (by kernel_rfl) (by kernel_rfl) (fun _ _ _ h => h) (Or.inl ⟨by rfl, fun w hw => by subst hw; go_simp⟩) rfl ?_
                simp only [Act.put, List.setIfInBounds_toArray, List.set_cons_zero, List.set_cons_succ]
                refine takeH_to (i := 6) (d := some 77) (v := .bool false) rfl rfl (by kernel_rfl) (by kernel_rfl) (by kernel_rfl) (fun _ _ _ h => h) (Or.inl ⟨by rfl, fun w hw => by subst hw; go_simp⟩) rfl ?_
                simp only [Act.put, List.setIfInBounds_toArray, List.set_cons_zero, List.set_cons_succ]
                refine takeH_to (i := 7) (d := some 78) (v := .bool false) rfl rfl (by kernel_rfl) (by kernel_rfl) (by kernel_rfl) (fun _ _ _ h => h) (Or.inl ⟨by rfl, fun w hw => by subst hw; go_simp⟩) rfl ?_
                simp only [Act.put, List.setIfInBounds_toArray, List.set_cons_zero, List.set_cons_succ]
                refine takeH_to (i := 8) (d := some 79) (v := .bool false) rfl rfl (by kernel_rfl) (by kernel_rfl) (by kernel_rfl) (fun _ _ _ h => h) (Or.inl ⟨by rfl, fun w hw => by subst hw; go_simp⟩) rfl ?_
                simp only [Act.put, List.setIfInBounds_toArray, List.set_cons_zero, List.set_cons_succ]
                refine takeH_to (i := 9) (d := some 80) (v := .pointer (some ⟨S, 0, none⟩)) rfl rfl (by kernel_rfl) (by kernel_rfl) (by kernel_rfl) (fun _ _ _ h => h) (Or.inl ⟨by rfl, fun w hw => by subst hw; go_simp⟩) rfl ?_
                simp only [Act.put, List.setIfInBounds_toArray, List.set_cons_zero, List.set_cons_succ]
                refine takeH_to (i := 11) (d := some 82) (v := .pointer (some ⟨Kr, 0, none⟩)) rfl rfl (by kernel_rfl) (by kernel_rfl) (by kernel_rfl) (fun _ _ _ h => h) (Or.inl ⟨by rfl, fun w hw => by subst hw; go_simp⟩) rfl ?_
                simp only [Act.put, List.setIfInBounds_toArray, List.set_cons_zero, List.set_cons_succ]
                refine takeH_to (i := 12) (d := some 83) (v := .pointer (some ⟨Kr, 0, none⟩)) rfl rfl (by kernel_rfl) (by kernel_rfl) (by kernel_rfl) (fun _ _ _ h => h) (Or.inl ⟨by rfl, fun w hw => by subst hw; go_simp⟩) rfl ?_
                simp only [Act.put, List.setIfInBounds_toArray, List.set_cons_zero, List.set_cons_succ]
                refine takeH_to (i := 13) (d := some 84) (v := .pointer (some ⟨Kr, 0, none⟩)) rfl rfl (by kernel_rfl) (by kernel_rfl) (by kernel_rfl) (fun _ _ _ h => h) (Or.inl ⟨by rfl, fun w hw => by subst hw; go_simp⟩) rfl ?_
                simp only [Act.put, List.setIfInBounds_toArray, List.set_cons_zero, List.set_cons_succ]
                refine takeH_to (i := 14) (d := some 85) (v := .slice ar n5 kr) rfl rfl (by kernel_rfl) (by kernel_rfl) (by kernel_rfl) (fun _ _ _ h => h) (Or.inl ⟨by rfl, fun w hw => by subst hw; go_simp⟩) rfl ?_
                simp only [Act.put, List.setIfInBounds_toArray, List.set_cons_zero, List.set_cons_succ]
                refine takeH_to (i := 15) (d := some 86) (v := .int .i64 (n5 : Nat)) rfl rfl (by kernel_rfl) (by kernel_rfl) (by kernel_rfl) (fun _ _ _ h => h) (Or.inl ⟨by rfl, fun w hw => by subst hw; go_simp⟩) rfl ?_
                simp only [Act.put, List.setIfInBounds_toArray, List.set_cons_zero, List.set_cons_succ]
                refine wpAnyH_ready (rs := [10]) (by kernel_rfl) (by simp) ?_
                refine AllReadyH.cons rfl (fun K hK => ?_) AllReadyH.nil
                go_simp
                go_wp2_with (go_at_call 11; refine (LEN.out).mono ?_; rintro e' w' ⟨rfl, rfl⟩)
                refine hK.out _ _ rfl (fun _ => ?_)
                clear hK K
                refine takeH_to (i := 16) (d := some 87) (v := .bool false) rfl rfl (by kernel_rfl) (by kernel_rfl) (by kernel_rfl) (fun _ _ _ h => h) (Or.inl ⟨by rfl, fun w hw => by subst hw; go_simp⟩) rfl ?_
                simp only [Act.put, List.setIfInBounds_toArray, List.set_cons_zero, List.set_cons_succ]
                refine takeH_to (i := 17) (d := some 88) (v := .bool false) rfl rfl (by kernel_rfl) (by kernel_rfl) (by kernel_rfl) (fun _ _ _ h => h) (Or.inl ⟨by rfl, fun w hw => by subst hw; go_simp⟩) rfl ?_
                simp only [Act.put, List.setIfInBounds_toArray, List.set_cons_zero, List.set_cons_succ]
                refine takeH_to (i := 18) (d := some 89) (v := .bool false) rfl rfl (by kernel_rfl) (by kernel_rfl) (by kernel_rfl) (fun _ _ _ h => h) (Or.inl ⟨by rfl, fun w hw => by subst hw; go_simp⟩) rfl ?_
                simp only [Act.put, List.setIfInBounds_toArray, List.set_cons_zero, List.set_cons_succ]
                refine takeH_to (i := 19) (d := some 90) (v := .pointer (some ⟨S, 0, none⟩)) rfl rfl (by kernel_rfl) (by kernel_rfl) (by kernel_rfl) (fun _ _ _ h => h) (Or.inl ⟨by rfl, fun w hw => by subst hw; go_simp⟩) rfl ?_
                simp only [Act.put, List.setIfInBounds_toArray, List.set_cons_zero, List.set_cons_succ]
                refine takeH_to (i := 21) (d := some 92) (v := .pointer (some ⟨Kr, 0, none⟩)) rfl rfl (by kernel_rfl) (by kernel_rfl) (by kernel_rfl) (fun _ _ _ h => h) (Or.inl ⟨by rfl, fun w hw => by subst hw; go_simp⟩) rfl ?_
                simp only [Act.put, List.setIfInBounds_toArray, List.set_cons_zero, List.set_cons_succ]
                refine takeH_to (i := 22) (d := some 93) (v := .pointer (some ⟨Kr, 0, none⟩)) rfl rfl (by kernel_rfl) (by kernel_rfl) (by kernel_rfl) (fun _ _ _ h => h) (Or.inl ⟨by rfl, fun w hw => by subst hw; go_simp⟩) rfl ?_
                simp only [Act.put, List.setIfInBounds_toArray, List.set_cons_zero, List.set_cons_succ]
                refine takeH_to (i := 23) (d := some 94) (v := .pointer (some ⟨Kr, 3, none⟩)) rfl rfl (by kernel_rfl) (by kernel_rfl) (by kernel_rfl) (fun _ _ _ h => h) (Or.inl ⟨by rfl, fun w hw => by subst hw; go_simp⟩) rfl ?_
                simp only [Act.put, List.setIfInBounds_toArray, List.set_cons_zero, List.set_cons_succ]
                refine takeH_to (i := 24) (d := some 95) (v := .pointer (some ⟨Kr, 3, none⟩)) rfl rfl (by kernel_rfl) (by kernel_rfl) (by kernel_rfl) (fun _ _ _ h => h) (Or.inl ⟨by rfl, fun w hw => by subst hw; go_simp⟩) rfl ?_
                simp only [Act.put, List.setIfInBounds_toArray, List.set_cons_zero, List.set_cons_succ]
                refine takeH_to (i := 25) (d := some 96) (v := .int .i64 N0) rfl rfl (by kernel_rfl) (by kernel_rfl) (by kernel_rfl) (fun _ _ _ h => h) (Or.inl ⟨by rfl, fun w hw => by subst hw; go_simp⟩) rfl ?_
                simp only [Act.put, List.setIfInBounds_toArray, List.set_cons_zero, List.set_cons_succ]
                refine wpAnyH_ready (rs := [20]) (by kernel_rfl) (by simp) ?_
                refine AllReadyH.cons rfl (fun K hK => ?_) AllReadyH.nil
                go_simp
                go_wp2_with (go_at_call 12; refine (TAK.out).mono ?_; rintro e' w' ⟨rfl, rfl⟩)
                refine hK.out _ _ rfl (fun _ => ?_)
                clear hK K
                refine takeH_to (i := 26) (d := some 97) (v := .bool false) rfl rfl (by kernel_rfl) (by kernel_rfl) (by kernel_rfl) (fun _ _ _ h => h) (Or.inl ⟨by rfl, fun w hw => by subst hw; go_simp⟩) rfl ?_
                simp only [Act.put, List.setIfInBounds_toArray, List.set_cons_zero, List.set_cons_succ]
                refine takeH_to (i := 27) (d := some 98) (v := .bool false) rfl rfl (by kernel_rfl) (by kernel_rfl) (by kernel_rfl) (fun _ _ _ h => h) (Or.inl ⟨by rfl, fun w hw => by subst hw; go_simp⟩) rfl ?_
                simp only [Act.put, List.setIfInBounds_toArray, List.set_cons_zero, List.set_cons_succ]
                refine takeH_to (i := 28) (d := some 99) (v := .bool false) rfl rfl (by kernel_rfl) (by kernel_rfl) (by kernel_rfl) (fun _ _ _ h => h) (Or.inl ⟨by rfl, fun w hw => by subst hw; go_simp⟩) rfl ?_
                simp only [Act.put, List.setIfInBounds_toArray, List.set_cons_zero, List.set_cons_succ]
                refine takeH_to (i := 29) (d := some 100) (v := .pointer (some ⟨S, 0, none⟩)) rfl rfl (by kernel_rfl) (by kernel_rfl) (by kernel_rfl) (fun _ _ _ h => h) (Or.inl ⟨by rfl, fun w hw => by subst hw; go_simp⟩) rfl ?_
                simp only [Act.put, List.setIfInBounds_toArray, List.set_cons_zero, List.set_cons_succ]
                refine takeH_to (i := 30) (d := some 101) (v := .int .i64 0) rfl rfl (by kernel_rfl) (by kernel_rfl) (by kernel_rfl) (fun _ _ _ h => h) (Or.inl ⟨by rfl, fun w hw => by subst hw; go_simp⟩) rfl ?_
                simp only [Act.put, List.setIfInBounds_toArray, List.set_cons_zero, List.set_cons_succ]
                refine takeH_to (i := 32) (d := some 103) (v := .pointer (some ⟨Kr, 0, none⟩)) rfl rfl (by kernel_rfl) (by kernel_rfl) (by kernel_rfl) (fun _ _ _ h => h) (Or.inl ⟨by rfl, fun w hw => by subst hw; go_simp⟩) rfl ?_
                simp only [Act.put, List.setIfInBounds_toArray, List.set_cons_zero, List.set_cons_succ]
                refine takeH_to (i := 33) (d := some 104) (v := .int .i64 0) rfl rfl (by kernel_rfl) (by kernel_rfl) (by kernel_rfl) (fun _ _ _ h => h) (Or.inl ⟨by rfl, fun w hw => by subst hw; go_simp⟩) rfl ?_
                simp only [Act.put, List.setIfInBounds_toArray, List.set_cons_zero, List.set_cons_succ]
                refine takeH_to (i := 34) (d := some 105) (v := .pointer (some ⟨Kr, 0, none⟩)) rfl rfl (by kernel_rfl) (by kernel_rfl) (by kernel_rfl) (fun _ _ _ h => h) (Or.inl ⟨by rfl, fun w hw => by subst hw; go_simp⟩) rfl ?_
                simp only [Act.put, List.setIfInBounds_toArray, List.set_cons_zero, List.set_cons_succ]
                refine takeH_to (i := 35) (d := some 106) (v := .pointer (some ⟨Kr, 3, none⟩)) rfl rfl (by kernel_rfl) (by kernel_rfl) (by kernel_rfl) (fun _ _ _ h => h) (Or.inl ⟨by rfl, fun w hw => by subst hw; go_simp⟩) rfl ?_
                simp only [Act.put, List.setIfInBounds_toArray, List.set_cons_zero, List.set_cons_succ]
                refine takeH_to (i := 36) (d := some 107) (v := .pointer (some ⟨Kr, 3, none⟩)) rfl rfl (by kernel_rfl) (by kernel_rfl) (by kernel_rfl) (fun _ _ _ h => h) (Or.inl ⟨by rfl, fun w hw => by subst hw; go_simp⟩) rfl ?_
                simp only [Act.put, List.setIfInBounds_toArray, List.set_cons_zero, List.set_cons_succ]
                refine takeH_to (i := 37) (d := some 108) (v := .int .i64 N0) rfl rfl (by kernel_rfl) (by kernel_rfl) (by kernel_rfl) (fun _ _ _ h => h) (Or.inl ⟨by rfl, fun w hw => by subst hw; go_simp⟩) rfl ?_
                simp only [Act.put, List.setIfInBounds_toArray, List.set_cons_zero, List.set_cons_succ]
                refine wpAnyH_ready (rs := [31]) (by kernel_rfl) (by simp) ?_
                refine AllReadyH.cons rfl (fun K hK => ?_) AllReadyH.nil
                go_simp
                go_wp2_with (go_at_call 13; refine (RF0.out).mono ?_; rintro e' w' ⟨rfl, rfl⟩)
                refine hK.out _ _ rfl (fun _ => ?_)
                clear hK K
                refine takeH_to (i := 38) (d := some 109) (v := .bool true) rfl rfl (by kernel_rfl) (by kernel_rfl) (by kernel_rfl) (fun _ _ _ h => h) (Or.inl ⟨by rfl, fun w hw => by subst hw; go_simp⟩) rfl ?_
                simp only [Act.put, List.setIfInBounds_toArray, List.set_cons_zero, List.set_cons_succ]
                refine takeH_to (i := 39) (d := some 110) (v := .bool true) rfl rfl (by kernel_rfl) (by kernel_rfl) (by kernel_rfl) (fun _ _ _ h => h) (Or.inl ⟨by rfl, fun w hw => by subst hw; go_simp⟩) rfl ?_
                simp only [Act.put, List.setIfInBounds_toArray, List.set_cons_zero, List.set_cons_succ]
                refine takeH_to (i := 40) (d := some 111) (v := .int .i64 0) rfl rfl (by kernel_rfl) (by kernel_rfl) (by kernel_rfl) (fun _ _ _ h => h) (Or.inl ⟨by rfl, fun w hw => by subst hw; go_simp⟩) rfl ?_
                simp only [Act.put, List.setIfInBounds_toArray, List.set_cons_zero, List.set_cons_succ]
                refine takeH_to (i := 41) (d := some 112) (v := .bool false) rfl rfl (by kernel_rfl) (by kernel_rfl) (by kernel_rfl) (fun _ _ _ h => h) (Or.inl ⟨by rfl, fun w hw => by subst hw; go_simp⟩) rfl ?_
                simp only [Act.put, List.setIfInBounds_toArray, List.set_cons_zero, List.set_cons_succ]
                refine takeH_to (i := 42) (d := some 113) (v := .bool false) rfl rfl (by kernel_rfl) (by kernel_rfl) (by kernel_rfl) (fun _ _ _ h => h) (Or.inl ⟨by rfl, fun w hw => by subst hw; go_simp⟩) rfl ?_
                simp only [Act.put, List.setIfInBounds_toArray, List.set_cons_zero, List.set_cons_succ]
                refine takeH_to (i := 43) (d := some 114) (v := .bool false) rfl rfl (by kernel_rfl) (by kernel_rfl) (by kernel_rfl) (fun _ _ _ h => h) (Or.inl ⟨by rfl, fun w hw => by subst hw; go_simp⟩) rfl ?_
                simp only [Act.put, List.setIfInBounds_toArray, List.set_cons_zero, List.set_cons_succ]
                refine wpAnyH_done (by kernel_rfl) ?_ _
                go_wp2_with fail
                go_meet
                exact ⟨rfl, BD.out⟩
            · have he1 : 0 < e := by omega
              have RFE' : Hid (Calls Tryz.prog 13 #[.pointer (some ⟨S, 0, none⟩), .int .i64 (e : Nat)] w7.drew fun e w' => e = .returned (.int .i64 Ne) ∧ w' = w7.drew) := RFE.out he1
              clear RFE RF0
              have k0d : w7.drew.cell? ⟨Kr, 0, none⟩ = some (.slice ar n5 kr) := k0
              have k3d : w7.drew.cell? ⟨Kr, 3, none⟩ = some (.int .i64 N0) := k3
              have ked : w7.drew.cell? ⟨Kr, 3 + e, none⟩ = some (.int .i64 Ne) := ke
              have BD : Hid (Below w7.heap.size w7 w7.drew) := (Below.refl _ _).drew
              refine wp_region_held_drew (S := fun w' => w' = w7.drew) (by kernel_rfl) rfl (fun _ => ?_)
              generalize w7.drew = WD at k0d k3d ked BD LEN TAK RFE' ⊢
              refine takeH_to (i := 0) (d := some 71) (v := .int .i64 TT) rfl rfl (by kernel_rfl) (by kernel_rfl) (by kernel_rfl) (fun _ _ _ h => h) (Or.inl ⟨by rfl, fun w hw => by subst hw; go_simp⟩) rfl ?_
              simp only [Act.put, List.setIfInBounds_toArray, List.set_cons_zero, List.set_cons_succ]
              refine takeH_to (i := 1) (d := some 72) (v := .int .i64 TT) rfl rfl (by kernel_rfl) (by kernel_rfl) (by kernel_rfl) (fun _ _ _ h => h) (Or.inl ⟨by rfl, fun w hw => by subst hw; go_simp⟩) rfl ?_
              simp only [Act.put, List.setIfInBounds_toArray, List.set_cons_zero, List.set_cons_succ]
              refine takeH_to (i := 2) (d := some 73) (v := .bool false) rfl rfl (by kernel_rfl) (by kernel_rfl) (by kernel_rfl) (fun _ _ _ h => h) (Or.inl ⟨by rfl, fun w hw => by subst hw; go_simp⟩) rfl ?_
              simp only [Act.put, List.setIfInBounds_toArray, List.set_cons_zero, List.set_cons_succ]
              refine takeH_to (i := 3) (d := some 74) (v := .bool false) rfl rfl (by kernel_rfl) (by kernel_rfl) (by kernel_rfl) (fun _ _ _ h => h) (Or.inl ⟨by rfl, fun w hw => by subst hw; go_simp⟩) rfl ?_
              simp only [Act.put, List.setIfInBounds_toArray, List.set_cons_zero, List.set_cons_succ]
              refine takeH_to (i := 4) (d := some 75) (v := .int .i64 (e : Nat)) rfl rfl (by kernel_rfl) (by kernel_rfl) (by kernel_rfl) (fun _ _ _ h => h) (Or.inl ⟨by rfl, fun w hw => by subst hw; go_simp⟩) rfl ?_
              simp only [Act.put, List.setIfInBounds_toArray, List.set_cons_zero, List.set_cons_succ]
              refine takeH_to (i := 5) (d := some 76) (v := .int .i64 (e : Nat)) rfl rfl (by kernel_rfl) (by kernel_rfl) (by kernel_rfl) (fun _ _ _ h => h) (Or.inl ⟨by rfl, fun w hw => by subst hw; go_simp⟩) rfl ?_
              simp only [Act.put, List.setIfInBounds_toArray, List.set_cons_zero, List.set_cons_succ]
              refine takeH_to (i := 6) (d := some 77) (v := .bool false) rfl rfl (by kernel_rfl) (by kernel_rfl) (by kernel_rfl) (fun _ _ _ h => h) (Or.inl ⟨by rfl, fun w hw => by subst hw; go_simp⟩) rfl ?_
              simp only [Act.put, List.setIfInBounds_toArray, List.set_cons_zero, List.set_cons_succ]
              refine takeH_to (i := 7) (d := some 78) (v := .bool false) rfl rfl (by kernel_rfl) (by kernel_rfl) (by kernel_rfl) (fun _ _ _ h => h) (Or.inl ⟨by rfl, fun w hw => by subst hw; go_simp⟩) rfl ?_
              simp only [Act.put, List.setIfInBounds_toArray, List.set_cons_zero, List.set_cons_succ]
              refine takeH_to (i := 8) (d := some 79) (v := .bool false) rfl rfl (by kernel_rfl) (by kernel_rfl) (by kernel_rfl) (fun _ _ _ h => h) (Or.inl ⟨by rfl, fun w hw => by subst hw; go_simp⟩) rfl ?_
              simp only [Act.put, List.setIfInBounds_toArray, List.set_cons_zero, List.set_cons_succ]
              refine takeH_to (i := 9) (d := some 80) (v := .pointer (some ⟨S, 0, none⟩)) rfl rfl (by kernel_rfl) (by kernel_rfl) (by kernel_rfl) (fun _ _ _ h => h) (Or.inl ⟨by rfl, fun w hw => by subst hw; go_simp⟩) rfl ?_
              simp only [Act.put, List.setIfInBounds_toArray, List.set_cons_zero, List.set_cons_succ]
              refine takeH_to (i := 11) (d := some 82) (v := .pointer (some ⟨Kr, 0, none⟩)) rfl rfl (by kernel_rfl) (by kernel_rfl) (by kernel_rfl) (fun _ _ _ h => h) (Or.inl ⟨by rfl, fun w hw => by subst hw; go_simp⟩) rfl ?_
              simp only [Act.put, List.setIfInBounds_toArray, List.set_cons_zero, List.set_cons_succ]
              refine takeH_to (i := 12) (d := some 83) (v := .pointer (some ⟨Kr, 0, none⟩)) rfl rfl (by kernel_rfl) (by kernel_rfl) (by kernel_rfl) (fun _ _ _ h => h) (Or.inl ⟨by rfl, fun w hw => by subst hw; go_simp⟩) rfl ?_
              simp only [Act.put, List.setIfInBounds_toArray, List.set_cons_zero, List.set_cons_succ]
              refine takeH_to (i := 13) (d := some 84) (v := .pointer (some ⟨Kr, 0, none⟩)) rfl rfl (by kernel_rfl) (by kernel_rfl) (by kernel_rfl) (fun _ _ _ h => h) (Or.inl ⟨by rfl, fun w hw => by subst hw; go_simp⟩) rfl ?_
              simp only [Act.put, List.setIfInBounds_toArray, List.set_cons_zero, List.set_cons_succ]
              refine takeH_to (i := 14) (d := some 85) (v := .slice ar n5 kr) rfl rfl (by kernel_rfl) (by kernel_rfl) (by kernel_rfl) (fun _ _ _ h => h) (Or.inl ⟨by rfl, fun w hw => by subst hw; go_simp⟩) rfl ?_
              simp only [Act.put, List.setIfInBounds_toArray, List.set_cons_zero, List.set_cons_succ]
              refine takeH_to (i := 15) (d := some 86) (v := .int .i64 (n5 : Nat)) rfl rfl (by kernel_rfl) (by kernel_rfl) (by kernel_rfl) (fun _ _ _ h => h) (Or.inl ⟨by rfl, fun w hw => by subst hw; go_simp⟩) rfl ?_
              simp only [Act.put, List.setIfInBounds_toArray, List.set_cons_zero, List.set_cons_succ]
              refine wpAnyH_ready (rs := [10]) (by kernel_rfl) (by simp) ?_
              refine AllReadyH.cons rfl (fun K hK => ?_) AllReadyH.nil
              go_simp
              go_wp2_with (go_at_call 11; refine (LEN.out).mono ?_; rintro e' w' ⟨rfl, rfl⟩)
              refine hK.out _ _ rfl (fun _ => ?_)
              clear hK K
              refine takeH_to (i := 16) (d := some 87) (v := .bool false) rfl rfl (by kernel_rfl) (by kernel_rfl) (by kernel_rfl) (fun _ _ _ h => h) (Or.inl ⟨by rfl, fun w hw => by subst hw; go_simp⟩) rfl ?_
              simp only [Act.put, List.setIfInBounds_toArray, List.set_cons_zero, List.set_cons_succ]
              refine takeH_to (i := 17) (d := some 88) (v := .bool false) rfl rfl (by kernel_rfl) (by kernel_rfl) (by kernel_rfl) (fun _ _ _ h => h) (Or.inl ⟨by rfl, fun w hw => by subst hw; go_simp⟩) rfl ?_
              simp only [Act.put, List.setIfInBounds_toArray, List.set_cons_zero, List.set_cons_succ]
              refine takeH_to (i := 18) (d := some 89) (v := .bool false) rfl rfl (by kernel_rfl) (by kernel_rfl) (by kernel_rfl) (fun _ _ _ h => h) (Or.inl ⟨by rfl, fun w hw => by subst hw; go_simp⟩) rfl ?_
              simp only [Act.put, List.setIfInBounds_toArray, List.set_cons_zero, List.set_cons_succ]
              refine takeH_to (i := 19) (d := some 90) (v := .pointer (some ⟨S, 0, none⟩)) rfl rfl (by kernel_rfl) (by kernel_rfl) (by kernel_rfl) (fun _ _ _ h => h) (Or.inl ⟨by rfl, fun w hw => by subst hw; go_simp⟩) rfl ?_
              simp only [Act.put, List.setIfInBounds_toArray, List.set_cons_zero, List.set_cons_succ]
              refine takeH_to (i := 21) (d := some 92) (v := .pointer (some ⟨Kr, 0, none⟩)) rfl rfl (by kernel_rfl) (by kernel_rfl) (by kernel_rfl) (fun _ _ _ h => h) (Or.inl ⟨by rfl, fun w hw => by subst hw; go_simp⟩) rfl ?_
              simp only [Act.put, List.setIfInBounds_toArray, List.set_cons_zero, List.set_cons_succ]
              refine takeH_to (i := 22) (d := some 93) (v := .pointer (some ⟨Kr, 0, none⟩)) rfl rfl (by kernel_rfl) (by kernel_rfl) (by kernel_rfl) (fun _ _ _ h => h) (Or.inl ⟨by rfl, fun w hw => by subst hw; go_simp⟩) rfl ?_
              simp only [Act.put, List.setIfInBounds_toArray, List.set_cons_zero, List.set_cons_succ]
              refine takeH_to (i := 23) (d := some 94) (v := .pointer (some ⟨Kr, 3, none⟩)) rfl rfl (by kernel_rfl) (by kernel_rfl) (by kernel_rfl) (fun _ _ _ h => h) (Or.inl ⟨by rfl, fun w hw => by subst hw; go_simp⟩) rfl ?_
              simp only [Act.put, List.setIfInBounds_toArray, List.set_cons_zero, List.set_cons_succ]
              refine takeH_to (i := 24) (d := some 95) (v := .pointer (some ⟨Kr, 3, none⟩)) rfl rfl (by kernel_rfl) (by kernel_rfl) (by kernel_rfl) (fun _ _ _ h => h) (Or.inl ⟨by rfl, fun w hw => by subst hw; go_simp⟩) rfl ?_
              simp only [Act.put, List.setIfInBounds_toArray, List.set_cons_zero, List.set_cons_succ]
              refine takeH_to (i := 25) (d := some 96) (v := .int .i64 N0) rfl rfl (by kernel_rfl) (by kernel_rfl) (by kernel_rfl) (fun _ _ _ h => h) (Or.inl ⟨by rfl, fun w hw => by subst hw; go_simp⟩) rfl ?_
              simp only [Act.put, List.setIfInBounds_toArray, List.set_cons_zero, List.set_cons_succ]
              refine wpAnyH_ready (rs := [20]) (by kernel_rfl) (by simp) ?_
              refine AllReadyH.cons rfl (fun K hK => ?_) AllReadyH.nil
              go_simp
              go_wp2_with (go_at_call 12; refine (TAK.out).mono ?_; rintro e' w' ⟨rfl, rfl⟩)
              refine hK.out _ _ rfl (fun _ => ?_)
              clear hK K
              refine takeH_to (i := 26) (d := some 97) (v := .bool false) rfl rfl (by kernel_rfl) (by kernel_rfl) (by kernel_rfl) (fun _ _ _ h => h) (Or.inl ⟨by rfl, fun w hw => by subst hw; go_simp⟩) rfl ?_
              simp only [Act.put, List.setIfInBounds_toArray, List.set_cons_zero, List.set_cons_succ]
              refine takeH_to (i := 27) (d := some 98) (v := .bool false) rfl rfl (by kernel_rfl) (by kernel_rfl) (by kernel_rfl) (fun _ _ _ h => h) (Or.inl ⟨by rfl, fun w hw => by subst hw; go_simp⟩) rfl ?_
              simp only [Act.put, List.setIfInBounds_toArray, List.set_cons_zero, List.set_cons_succ]
              refine takeH_to (i := 28) (d := some 99) (v := .bool false) rfl rfl (by kernel_rfl) (by kernel_rfl) (by kernel_rfl) (fun _ _ _ h => h) (Or.inl ⟨by rfl, fun w hw => by subst hw; go_simp⟩) rfl ?_
              simp only [Act.put, List.setIfInBounds_toArray, List.set_cons_zero, List.set_cons_succ]
              refine takeH_to (i := 29) (d := some 100) (v := .pointer (some ⟨S, 0, none⟩)) rfl rfl (by kernel_rfl) (by kernel_rfl) (by kernel_rfl) (fun _ _ _ h => h) (Or.inl ⟨by rfl, fun w hw => by subst hw; go_simp⟩) rfl ?_
              simp only [Act.put, List.setIfInBounds_toArray, List.set_cons_zero, List.set_cons_succ]
              refine takeH_to (i := 30) (d := some 101) (v := .int .i64 (e : Nat)) rfl rfl (by kernel_rfl) (by kernel_rfl) (by kernel_rfl) (fun _ _ _ h => h) (Or.inl ⟨by rfl, fun w hw => by subst hw; go_simp⟩) rfl ?_
              simp only [Act.put, List.setIfInBounds_toArray, List.set_cons_zero, List.set_cons_succ]
              refine takeH_to (i := 32) (d := some 103) (v := .pointer (some ⟨Kr, 0, none⟩)) rfl rfl (by kernel_rfl) (by kernel_rfl) (by kernel_rfl) (fun _ _ _ h => h) (Or.inl ⟨by rfl, fun w hw => by subst hw; go_simp⟩) rfl ?_
              simp only [Act.put, List.setIfInBounds_toArray, List.set_cons_zero, List.set_cons_succ]
              refine takeH_to (i := 33) (d := some 104) (v := .int .i64 (e : Nat)) rfl rfl (by kernel_rfl) (by kernel_rfl) (by kernel_rfl) (fun _ _ _ h => h) (Or.inl ⟨by rfl, fun w hw => by subst hw; go_simp⟩) rfl ?_
              simp only [Act.put, List.setIfInBounds_toArray, List.set_cons_zero, List.set_cons_succ]
              refine takeH_to (i := 34) (d := some 105) (v := .pointer (some ⟨Kr, 0, none⟩)) rfl rfl (by kernel_rfl) (by kernel_rfl) (by kernel_rfl) (fun _ _ _ h => h) (Or.inl ⟨by rfl, fun w hw => by subst hw; go_simp⟩) rfl ?_
              simp only [Act.put, List.setIfInBounds_toArray, List.set_cons_zero, List.set_cons_succ]
              refine takeH_to (i := 35) (d := some 106) (v := .pointer (some ⟨Kr, 3, none⟩)) rfl rfl (by kernel_rfl) (by kernel_rfl) (by kernel_rfl) (fun _ _ _ h => h) (Or.inl ⟨by rfl, fun w hw => by subst hw; go_simp⟩) rfl ?_
              simp only [Act.put, List.setIfInBounds_toArray, List.set_cons_zero, List.set_cons_succ]
              refine takeH_to (i := 36) (d := some 107) (v := .pointer (some ⟨Kr, 3 + e, none⟩)) rfl rfl (by kernel_rfl) (by kernel_rfl) (by kernel_rfl) (fun _ _ _ h => h) (Or.inl ⟨by rfl, fun w hw => by subst hw; go_simp⟩) rfl ?_
              simp only [Act.put, List.setIfInBounds_toArray, List.set_cons_zero, List.set_cons_succ]
              refine takeH_to (i := 37) (d := some 108) (v := .int .i64 Ne) rfl rfl (by kernel_rfl) (by kernel_rfl) (by kernel_rfl) (fun _ _ _ h => h) (Or.inl ⟨by rfl, fun w hw => by subst hw; go_simp⟩) rfl ?_
              simp only [Act.put, List.setIfInBounds_toArray, List.set_cons_zero, List.set_cons_succ]
              refine wpAnyH_ready (rs := [31]) (by kernel_rfl) (by simp) ?_
              refine AllReadyH.cons rfl (fun K hK => ?_) AllReadyH.nil
              go_simp
              go_wp2_with (go_at_call 13; refine (RFE'.out).mono ?_; rintro e' w' ⟨rfl, rfl⟩)
              refine hK.out _ _ rfl (fun _ => ?_)
              clear hK K
              refine takeH_to (i := 38) (d := some 109) (v := .bool false) rfl rfl (by kernel_rfl) (by kernel_rfl) (by kernel_rfl) (fun _ _ _ h => h) (Or.inl ⟨by rfl, fun w hw => by subst hw; go_simp⟩) rfl ?_
              simp only [Act.put, List.setIfInBounds_toArray, List.set_cons_zero, List.set_cons_succ]
              refine takeH_to (i := 39) (d := some 110) (v := .bool false) rfl rfl (by kernel_rfl) (by kernel_rfl) (by kernel_rfl) (fun _ _ _ h => h) (Or.inl ⟨by rfl, fun w hw => by subst hw; go_simp⟩) rfl ?_
              simp only [Act.put, List.setIfInBounds_toArray, List.set_cons_zero, List.set_cons_succ]
              refine takeH_to (i := 40) (d := some 111) (v := undef) rfl rfl (by kernel_rfl) (by kernel_rfl) (by kernel_rfl) (fun _ _ _ h => h) (Or.inr ⟨by rfl, rfl⟩) rfl ?_
              simp only [Act.put, List.setIfInBounds_toArray, List.set_cons_zero, List.set_cons_succ]
              refine takeH_to (i := 41) (d := some 112) (v := undef) rfl rfl (by kernel_rfl) (by kernel_rfl) (by kernel_rfl) (fun _ _ _ h => h) (Or.inr ⟨by rfl, rfl⟩) rfl ?_
              simp only [Act.put, List.setIfInBounds_toArray, List.set_cons_zero, List.set_cons_succ]
              refine takeH_to (i := 42) (d := some 113) (v := .bool false) rfl rfl (by kernel_rfl) (by kernel_rfl) (by kernel_rfl) (fun _ _ _ h => h) (Or.inl ⟨by rfl, fun w hw => by subst hw; go_simp⟩) rfl ?_
              simp only [Act.put, List.setIfInBounds_toArray, List.set_cons_zero, List.set_cons_succ]
              refine takeH_to (i := 43) (d := some 114) (v := .bool false) rfl rfl (by kernel_rfl) (by kernel_rfl) (by kernel_rfl) (fun _ _ _ h => h) (Or.inl ⟨by rfl, fun w hw => by subst hw; go_simp⟩) rfl ?_
              simp only [Act.put, List.setIfInBounds_toArray, List.set_cons_zero, List.set_cons_succ]
              refine wpAnyH_done (by kernel_rfl) ?_ _
              go_wp2_with fail
              go_meet
              exact ⟨rfl, BD.out⟩
        case rest =>
          obtain ⟨rfl, hbl⟩ := hcut
          go_wp2_with fail
          go_roundg (m - (k + 1))
          case measure => omega
          case rel => exact ⟨k + 1, _, _, _, _, _, by omega, by go_num, V7.out.below hbl, R7.out.below hbl, SM5.out, F5.out, GD5.out, B7.out.trans (hbl.mono (by have := B7.out.size; have := HH.out; omega))⟩
      · obtain rfl : k = m := by omega
        obtain ⟨wm, rfl⟩ : ∃ x, x = wr := ⟨_, rfl⟩
        have hrise := V4.out.rise
        have hnum := V4.out.num
        obtain ⟨Zr, hzr, htr⟩ := R4.out.row
        obtain ⟨n5, hn5⟩ : ∃ x, s.L.length = x := ⟨_, rfl⟩
        have HN5 : Hid (s.L.length = n5) := hn5
        have hzn : Zr.length = n5 := htr.len.trans hn5
        have HZN : Hid (Zr.length = n5) := hzn
        obtain ⟨ar, kr, hu, hk1, hk2, _⟩ := id hzr
        subst hu
        have HC := tel_cells hzr htr
        have HCC : Hid _ := HC
        rw [hzn] at R4 hk1
        have HRI : Hid (RiseT s.L) := hrise
        have HNU : Hid (s.N.length = 18) := hnum
        have k0 := R4.out.blk.cell 0 _ rfl
        clear hzr htr hn5 hzn HC hrise hnum
        go_wp2_with fail
        go_loopg [121] n5 (fun g i wx => ∃ q : Nat, q + g = n5 ∧ i = .int .i64 q ∧ Below wm.heap.size wm wx)
        case atStart => exact ⟨0, by omega, rfl, Below.refl _ _⟩
        case round =>
          as_aux_lemma =>
            obtain ⟨q, hq, rfl, hbl⟩ := hrel
            have BL : Hid (Below wm.heap.size wm wr) := hbl
            by_cases hqn : q < n5
            · obtain ⟨b, o, rfl, hb0, c0, c1, c2, ho⟩ := HCC.out q (by rw [HZN.out]; exact hqn)
              obtain ⟨zu, hzu⟩ : ∃ x, (Zr[q]'(by rw [HZN.out]; exact hqn)).2.2 = x := ⟨_, rfl⟩
              rw [hzu] at c2 ho
              have hga := get_kept HRI.out (i := q) (by rw [HN5.out]; exact hqn)
              have hfe := FW.out _ (atS_mem (L := s.L) (i := q) (by rw [HN5.out]; exact hqn))
              have AT : Hid (∀ w', StoV w' H S H v rs s → Calls Tryz.prog 14 #[.pointer (some ⟨S, 0, none⟩), .int .i64 (q : Nat)] w' fun e w'' => ∃ u, e = .returned (.tuple #[snV (atS s.L q).t (atS s.L q).m u, .int .i64 0]) ∧ OwnE w'' w'.heap.size u (atS s.L q).E ∧ Below w'.heap.size w' w'') := fun w' h => by
                have := st_at w' H S H v rs s h q (by rw [HN5.out]; exact hqn) (by omega)
                rw [pre_atE] at this; exact this
              have GT : Hid (∀ w', StoV w' H S H v rs s → Calls Tryz.prog 15 #[.pointer (some ⟨S, 0, none⟩), .int .i64 (atS s.L q).t] w' fun e w'' => ∃ u, e = .returned (.tuple #[snV (atS s.L q).t (atS s.L q).m u, .bool true]) ∧ OwnE w'' w'.heap.size u (atS s.L q).E ∧ Below w'.heap.size w' w'') := fun w' h => by
                have := st_get w' H S H v rs s h (atS s.L q).t (by rw [hga.2]; omega)
                rw [pre_atE, hga.1, hga.2] at this; exact this
              obtain ⟨x, hx⟩ : ∃ x, atS s.L q = x := ⟨_, rfl⟩
              rw [hx] at AT GT c0 c1 ho
              obtain ⟨xt, xm, xE⟩ := x
              obtain ⟨nE, hnE⟩ : ∃ n, xE.length = n := ⟨_, rfl⟩
              have HNE : Hid (xE.length = nE) := hnE
              obtain ⟨ao3, cp3, rfl⟩ := ho.form
              have ho' : OwnE wm (Kr + 1) (.slice ao3 xE.length cp3) xE := ho
              have c2' : wm.cell? ⟨b, o + q * 3 + 2, none⟩ = some (.slice ao3 xE.length cp3) := c2
              rw [hnE] at c2' ho'
              have RX : Hid (RdE wr (.slice ao3 nE cp3) nE (atE xE)) := by
                have := (ho'.below hbl).atE
                rw [hnE] at this; exact this
              have V5 : Hid (StoV wr H S H v rs s) := V4.out.below hbl
              have y0 := (hbl.cell (p := ⟨b, o + q * 3, none⟩) hb0).trans c0
              have y1 := (hbl.cell (p := ⟨b, o + q * 3 + 1, none⟩) hb0).trans c1
              have y2 := (hbl.cell (p := ⟨b, o + q * 3 + 2, none⟩) hb0).trans c2'
              simp only at y0 y1
              clear c0 c1 c2 c2' ho ho' hzu hga hfe hx hnE hbl HCC
              go_upto_region 16 with fail
              obtain ⟨W1, hW1⟩ : ∃ W, wr.alloc (.cells #[.int .i64 xt, .int .i64 xm, .slice ao3 nE cp3] 45) = W := ⟨_, rfl⟩
              obtain ⟨p1, p2, p3⟩ := boxed hW1
              obtain ⟨b1, hb1⟩ : ∃ x, wr.heap.size = x := ⟨_, rfl⟩
              rw [hb1] at p1
              (try rw [hb1])
              have P1 : Hid (Blk W1 b1 [.int .i64 xt, .int .i64 xm, .slice ao3 nE cp3]) := p1
              have V6 : Hid (StoV W1 H S H v rs s) := V5.out.below p2
              have RX1 : Hid (RdE W1 (.slice ao3 nE cp3) nE (atE xE)) := RX.out.below p2
              have BL1 : Hid (Below wm.heap.size wm W1) := BL.out.trans (p2.mono BL.out.size)
              clear p1 p2 p3 y0 y1 y2 V5 RX BL
              go_wp2_with fail
              refine (AT.out W1 V6.out).mono ?_; rintro e w6 ⟨u6, rfl, o6, b6⟩
              obtain ⟨a6, c6, rfl⟩ := o6.form
              have RY6 : Hid (RdE w6 (.slice a6 nE c6) nE (atE xE)) := by have := o6.atE; rw [HNE.out] at this; exact this
              have P6 : Hid (Blk w6 b1 [.int .i64 xt, .int .i64 xm, .slice ao3 nE cp3]) := P1.out.below b6 P1.out.lt
              have V7 : Hid (StoV w6 H S H v rs s) := V6.out.below b6
              have RX6 : Hid (RdE w6 (.slice ao3 nE cp3) nE (atE xE)) := RX1.out.below b6
              have BL6 : Hid (Below wm.heap.size wm w6) := BL1.out.trans (b6.mono BL1.out.size)
              rw [HNE.out]
              clear o6 b6 hW1 hb1 P1 V6 RX1 BL1 AT
              go_upto_region 17 with fail
              obtain ⟨W2, hW2⟩ : ∃ W, w6.alloc (.cells #[.int .i64 xt, .int .i64 xm, .slice a6 nE c6] 45) = W := ⟨_, rfl⟩
              obtain ⟨p1, p2, p3⟩ := boxed hW2
              obtain ⟨b2, hb2⟩ : ∃ x, w6.heap.size = x := ⟨_, rfl⟩
              rw [hb2] at p1
              (try rw [hb2])
              have Q2 : Hid (Blk W2 b2 [.int .i64 xt, .int .i64 xm, .slice a6 nE c6]) := p1
              have P2 : Hid (Blk W2 b1 [.int .i64 xt, .int .i64 xm, .slice ao3 nE cp3]) := P6.out.below p2 P6.out.lt
              have V8 : Hid (StoV W2 H S H v rs s) := V7.out.below p2
              have RX2 : Hid (RdE W2 (.slice ao3 nE cp3) nE (atE xE)) := RX6.out.below p2
              have RY2 : Hid (RdE W2 (.slice a6 nE c6) nE (atE xE)) := RY6.out.below p2
              have BL2 : Hid (Below wm.heap.size wm W2) := BL6.out.trans (p2.mono BL6.out.size)
              have t0 := P2.out.cell 0 _ rfl
              clear p1 p2 p3 P6 V7 RX6 RY6 BL6
              go_wp2_with fail
              refine (GT.out W2 V8.out).mono ?_; rintro e w7 ⟨u7, rfl, o7, b7⟩
              obtain ⟨a7, c7, rfl⟩ := o7.form
              have RZ7 : Hid (RdE w7 (.slice a7 nE c7) nE (atE xE)) := by have := o7.atE; rw [HNE.out] at this; exact this
              have P7 : Hid (Blk w7 b1 [.int .i64 xt, .int .i64 xm, .slice ao3 nE cp3]) := P2.out.below b7 P2.out.lt
              have Q7 : Hid (Blk w7 b2 [.int .i64 xt, .int .i64 xm, .slice a6 nE c6]) := Q2.out.below b7 Q2.out.lt
              have RX7 : Hid (RdE w7 (.slice ao3 nE cp3) nE (atE xE)) := RX2.out.below b7
              have RY7 : Hid (RdE w7 (.slice a6 nE c6) nE (atE xE)) := RY2.out.below b7
              have BL7 : Hid (Below wm.heap.size wm w7) := BL2.out.trans (b7.mono BL2.out.size)
              rw [HNE.out]
              clear o7 b7 hW2 hb2 Q2 P2 V8 RX2 RY2 BL2 GT t0
              go_upto_region 18 with fail
              obtain ⟨W3, hW3⟩ : ∃ W, w7.alloc (.cells #[.int .i64 xt, .int .i64 xm, .slice a7 nE c7] 45) = W := ⟨_, rfl⟩
              obtain ⟨p1, p2, p3⟩ := boxed hW3
              obtain ⟨b3, hb3⟩ : ∃ x, w7.heap.size = x := ⟨_, rfl⟩
              rw [hb3] at p1
              (try rw [hb3])
              have S3 : Hid (Blk W3 b3 [.int .i64 xt, .int .i64 xm, .slice a7 nE c7]) := p1
              have P3' : Hid (Blk W3 b1 [.int .i64 xt, .int .i64 xm, .slice ao3 nE cp3]) := P7.out.below p2 P7.out.lt
              have Q3 : Hid (Blk W3 b2 [.int .i64 xt, .int .i64 xm, .slice a6 nE c6]) := Q7.out.below p2 Q7.out.lt
              have RX3 : Hid (RdE W3 (.slice ao3 nE cp3) nE (atE xE)) := RX7.out.below p2
              have RY3 : Hid (RdE W3 (.slice a6 nE c6) nE (atE xE)) := RY7.out.below p2
              have RZ3 : Hid (RdE W3 (.slice a7 nE c7) nE (atE xE)) := RZ7.out.below p2
              have BL3 : Hid (Below wm.heap.size wm W3) := BL7.out.trans (p2.mono BL7.out.size)
              have t0 := P3'.out.cell 0 _ rfl
              have t1 := P3'.out.cell 1 _ rfl
              have t2 := P3'.out.cell 2 _ rfl
              have u0 := Q3.out.cell 0 _ rfl
              have u1 := Q3.out.cell 1 _ rfl
              have u2 := Q3.out.cell 2 _ rfl
              clear p1 p2 p3 P7 Q7 RX7 RY7 RZ7 BL7
              go_wp2_with fail
              refine (sn_same W3 xt xm _ _ nE (atE xE) RX3.out RY3.out).mono ?_; rintro e w8 ⟨rfl, b8⟩
              have S8 : Hid (Blk w8 b3 [.int .i64 xt, .int .i64 xm, .slice a7 nE c7]) := S3.out.below b8 S3.out.lt
              have P8 : Hid (Blk w8 b1 [.int .i64 xt, .int .i64 xm, .slice ao3 nE cp3]) := P3'.out.below b8 P3'.out.lt
              have RX8 : Hid (RdE w8 (.slice ao3 nE cp3) nE (atE xE)) := RX3.out.below b8
              have RZ8 : Hid (RdE w8 (.slice a7 nE c7) nE (atE xE)) := RZ3.out.below b8
              have BL8 : Hid (Below wm.heap.size wm w8) := BL3.out.trans (b8.mono BL3.out.size)
              clear b8 t0 t1 t2 u0 u1 u2 hW3 hb3 S3 P3' Q3 RX3 RY3 RZ3 BL3
              have t0 := P8.out.cell 0 _ rfl
              have t1 := P8.out.cell 1 _ rfl
              have t2 := P8.out.cell 2 _ rfl
              have u0 := S8.out.cell 0 _ rfl
              have u1 := S8.out.cell 1 _ rfl
              have u2 := S8.out.cell 2 _ rfl
              go_wp2_with fail
              refine (sn_same w8 xt xm _ _ nE (atE xE) RX8.out RZ8.out).mono ?_; rintro e w9 ⟨rfl, b9⟩
              have BL9 : Hid (Below wm.heap.size wm w9) := BL8.out.trans (b9.mono BL8.out.size)
              clear b9 t0 t1 t2 u0 u1 u2
              go_wp2_with fail
              go_roundg (n5 - (q + 1))
              case measure => omega
              case rel => exact ⟨q + 1, by omega, by go_num, BL9.out⟩
            · obtain rfl : q = n5 := by omega
              clear HCC hbl k0
              obtain ⟨wn, rfl⟩ : ∃ x, x = wr := ⟨_, rfl⟩
              go_wp2_with fail
              go_loopg [20] 17 (fun g i wx => ∃ e : Nat, e + g = 18 ∧ 1 ≤ e ∧ i = .int .i64 e ∧ Below wm.heap.size wm wx)
              case atStart => exact ⟨1, by omega, by omega, rfl, BL.out⟩
              case round =>
                as_aux_lemma =>
                  obtain ⟨e, he, he1, rfl, hbl⟩ := hrel
                  have BE : Hid (Below wm.heap.size wm wr) := hbl
                  have V5 : Hid (StoV wr H S H v rs s) := V4.out.below hbl
                  have R5 := R4.out.below hbl
                  by_cases he18 : e < 18
                  · obtain ⟨Ne, hNe⟩ : ∃ x, s.N.getD e 0 = x := ⟨_, rfl⟩
                    have ke := (R5.count HNU.out e he18).1
                    rw [hNe] at ke
                    have RFE : Hid (Calls Tryz.prog 13 #[.pointer (some ⟨S, 0, none⟩), .int .i64 (e : Nat)] wr.drew fun r w' => r = .returned (.int .i64 Ne) ∧ w' = wr.drew) := by
                      have := st_refused wr.drew H S H v rs s (V5.out.below (Below.refl _ _).drew) e he1 he18; rw [hNe] at this; exact this
                    have d1 : decide ((0 : Int) ≤ (e : Int)) = true := by simp
                    have d2 : decide ((e : Int) < 18) = true := by simp; omega
                    have d3 : (e : Int) < 18 := by omega
                    clear hNe R5 hbl
                    go_upto_region 24 with fail
                    have ked : wr.drew.cell? ⟨Kr, 3 + e, none⟩ = some (.int .i64 Ne) := ke
                    have BD : Hid (Below wm.heap.size wm wr.drew) := BE.out.drew
                    refine wp_region_held_drew (S := fun w' => w' = wr.drew) (by kernel_rfl) rfl (fun _ => ?_)
                    generalize wr.drew = WD at ked BD RFE ⊢
                    refine takeH_to (i := 0) (d := some 162) (v := .pointer (some ⟨S, 0, none⟩)) rfl rfl (by kernel_rfl) (by kernel_rfl) (by kernel_rfl) (fun _ _ _ h => h) (Or.inl ⟨by rfl, fun w hw => by subst hw; go_simp⟩) rfl ?_
                    simp only [Act.put, List.setIfInBounds_toArray, List.set_cons_zero, List.set_cons_succ]
                    refine takeH_to (i := 1) (d := some 163) (v := .int .i64 (e : Nat)) rfl rfl (by kernel_rfl) (by kernel_rfl) (by kernel_rfl) (fun _ _ _ h => h) (Or.inl ⟨by rfl, fun w hw => by subst hw; go_simp⟩) rfl ?_
                    simp only [Act.put, List.setIfInBounds_toArray, List.set_cons_zero, List.set_cons_succ]
                    refine takeH_to (i := 3) (d := some 165) (v := .pointer (some ⟨Kr, 0, none⟩)) rfl rfl (by kernel_rfl) (by kernel_rfl) (by kernel_rfl) (fun _ _ _ h => h) (Or.inl ⟨by rfl, fun w hw => by subst hw; go_simp⟩) rfl ?_
                    simp only [Act.put, List.setIfInBounds_toArray, List.set_cons_zero, List.set_cons_succ]
                    refine takeH_to (i := 4) (d := some 166) (v := .int .i64 (e : Nat)) rfl rfl (by kernel_rfl) (by kernel_rfl) (by kernel_rfl) (fun _ _ _ h => h) (Or.inl ⟨by rfl, fun w hw => by subst hw; go_simp⟩) rfl ?_
                    simp only [Act.put, List.setIfInBounds_toArray, List.set_cons_zero, List.set_cons_succ]
                    refine takeH_to (i := 5) (d := some 167) (v := .pointer (some ⟨Kr, 0, none⟩)) rfl rfl (by kernel_rfl) (by kernel_rfl) (by kernel_rfl) (fun _ _ _ h => h) (Or.inl ⟨by rfl, fun w hw => by subst hw; go_simp⟩) rfl ?_
                    simp only [Act.put, List.setIfInBounds_toArray, List.set_cons_zero, List.set_cons_succ]
                    refine takeH_to (i := 6) (d := some 168) (v := .pointer (some ⟨Kr, 3, none⟩)) rfl rfl (by kernel_rfl) (by kernel_rfl) (by kernel_rfl) (fun _ _ _ h => h) (Or.inl ⟨by rfl, fun w hw => by subst hw; go_simp⟩) rfl ?_
                    simp only [Act.put, List.setIfInBounds_toArray, List.set_cons_zero, List.set_cons_succ]
                    refine takeH_to (i := 7) (d := some 169) (v := .pointer (some ⟨Kr, 3 + e, none⟩)) rfl rfl (by kernel_rfl) (by kernel_rfl) (by kernel_rfl) (fun _ _ _ h => h) (Or.inl ⟨by rfl, fun w hw => by subst hw; go_simp⟩) rfl ?_
                    simp only [Act.put, List.setIfInBounds_toArray, List.set_cons_zero, List.set_cons_succ]
                    refine takeH_to (i := 8) (d := some 170) (v := .int .i64 Ne) rfl rfl (by kernel_rfl) (by kernel_rfl) (by kernel_rfl) (fun _ _ _ h => h) (Or.inl ⟨by rfl, fun w hw => by subst hw; go_simp⟩) rfl ?_
                    simp only [Act.put, List.setIfInBounds_toArray, List.set_cons_zero, List.set_cons_succ]
                    refine wpAnyH_ready (rs := [2]) (by kernel_rfl) (by simp) ?_
                    refine AllReadyH.cons rfl (fun K hK => ?_) AllReadyH.nil
                    go_simp
                    go_wp2_with (go_at_call 13; refine (RFE.out).mono ?_; rintro e' w' ⟨rfl, rfl⟩)
                    refine hK.out _ _ rfl (fun _ => ?_)
                    clear hK K
                    refine takeH_to (i := 9) (d := some 171) (v := .bool false) rfl rfl (by kernel_rfl) (by kernel_rfl) (by kernel_rfl) (fun _ _ _ h => h) (Or.inl ⟨by rfl, fun w hw => by subst hw; go_simp⟩) rfl ?_
                    simp only [Act.put, List.setIfInBounds_toArray, List.set_cons_zero, List.set_cons_succ]
                    refine wpAnyH_done (by kernel_rfl) ?_ _
                    go_wp2_with fail
                    go_roundg (18 - (e + 1))
                    case measure => omega
                    case rel => exact ⟨e + 1, by omega, by omega, by go_num, BD.out⟩
                  · obtain rfl : e = 18 := by omega
                    clear R5 hbl
                    go_wp2_with fail
                    refine (st_refused_out wr S 0 (Or.inl (by omega))).mono ?_; rintro e' w9 ⟨rfl, rfl⟩
                    go_wp2_with fail
                    go_ret
                    exact ⟨rfl, by rw [HH.out]; exact B4.out.trans (BE.out.mono hz4)⟩

set_option maxRecDepth 100000 in
theorem lifted (os : Os) (started : os.Started) (H : Type) (enc : TypeId × Value → H) :
    ReturnsInHanded {} Tryz.checked os 3 .any (Rows.storeAcceptsSpec.pre6 enc Tryz.prog Tryz.f3 Rows.storeAcceptsRow.domain false) (Rows.storeAcceptsSpec.post enc Tryz.prog Tryz.f3 false true false false) := by
  refine returnsInHanded_of_change_sized (C := Tryz.checked) own started (by kernel_rfl) Tryz.func3
    (ChangeSpec.witness6 (enc := enc) (C := Tryz.checked) false ⟨#[], #[.int .i64 0, .slice none 0 0], []⟩ 8 (by kernel_rfl) (by kernel_rfl) (by kernel_rfl) (by kernel_rfl)) ?_
  intro W base args ds gs before hval0 hW hcnd hsz0 _
  have hval : ∀ (j : Nat) t v, Tryz.f3.params[j]? = some t → args[j]? = some v → Value.okWide Tryz.prog W .any base t v := hval0
  have hW' := hW
  obtain ⟨p, q, hA0, hV, rfl, hfz, hnd⟩ := hW
  have hA : DataW.TrodAll enc Tryz.prog W 0 (fun _ => true) true Tryz.f3.params.toList args.toList ds p := hA0
  rw [Tryz.params3] at hA hval
  have hsz : (DataW.weightsEach Tryz.prog (Tryz.f3.params.toList ++ Rows.storeAcceptsSpec.plain.varTypes Tryz.prog) (ds ++ gs)).all (· ≤ reachBytes) = true := hsz0
  clear hsz0
  rw [Tryz.params3] at hsz
  obtain ⟨v0, vs0, d0, ds0, p0, q0, hargs, rfl, rfl, h0, r0⟩ := trodAll_cons hA
  obtain ⟨v1, vs1, d1, ds1, p1, q1, rfl, rfl, rfl, h1, r1⟩ := trodAll_cons r0
  obtain ⟨rfl, rfl, rfl⟩ := trodAll_nil r1
  obtain rfl : args = #[v0, v1] := by cases args; simp_all
  obtain ⟨rfl, rfl⟩ := trodVars_none hV
  have hlt := hW'.lt
  have k0 := h0
  obtain ⟨a0, rfl, rfl, rfl, w0⟩ := open_int Tryz.underlying3 (hval 0 3 v0 rfl rfl) h0
  have k1 := h1
  obtain ⟨n1, L1, b1, e1, y1⟩ := open_bss (hval 1 22 v1 rfl rfl) h1
  have z1 := y1 (fun k hk => by have := List.all_eq_true.1 hsz _ (DataW.weights_mem_each (j := 1) rfl rfl k hk); simpa using this)
  clear hA0 hval0
  refine (walk W a0 w0 v1 n1 L1 b1 e1 z1).mono fun e W' ⟨he, hg⟩ => ?_
  subst he
  exact ⟨_, rfl, post_of_below hW' (fun _ _ _ => (trodAll_cons_mk (shut_bool Tryz.underlying4 _) trodAll_mk0)) (trodAll_cons_mk (Below.trod laidOut (by kernel_rfl) (of_decide_eq_true (by kernel_rfl)) k0 hg (fun x hx => by first | exact absurd hx (by simp) | exact hlt x (by simp [hx]))) (trodAll_cons_mk (Below.trod laidOut (by kernel_rfl) (of_decide_eq_true (by kernel_rfl)) k1 hg (fun x hx => by first | exact absurd hx (by simp) | exact hlt x (by simp [hx]))) trodAll_mk0)) rfl hg⟩

theorem over : Rows.storeAcceptsRow.holds Tryz.pinned (OpenSpec.ofChange Rows.storeAcceptsSpec) :=
  OpenClaim.holds_of_wide 3 Tryz.f3 rfl rfl rfl rfl rfl rfl rfl ⟨rfl, rfl, rfl, rfl, rfl⟩ rfl rfl rfl rfl rfl (by kernel_rfl) Tryz.func3 (by kernel_rfl)
    (of_decide_eq_true (by kernel_rfl)) (by unfold Func.isWrapper; first | (rw [if_pos (by decide +kernel)]; kernel_rfl) | (rw [if_neg (by decide +kernel)]; exact ⟨rfl, rfl⟩))
    (fun os started H enc _ => lifted os started H enc)
end StoreAcceptsL

theorem storeAccepts_proved : Rows.StoreAcceptsSaid := StoreAcceptsL.over
#print axioms storeAccepts_proved
end Go.Proofs.YtlpdhglibgnkoaaGreat
