/-
  Proved: of any bytes crc.Sum answers the document's own sum, crc.More goes on with it by any others, and crc.Seal lays the document's own bytes behind them (the law CrcSums answers true at every input).
  Conditions: none.
-/
import Derived.Test.YthofloblheodbaaRows
import Derived.Test.YthofloblheodbaaFr
import Derived.Test.YthofloblheodbaaCrc7
import Derived.Test.YthofloblheodbaaReg
namespace Go.Proofs.Ythofloblheodbaa
open Go.ChangeShapes Go.WideShapes Go.ChangeAt Go.RowKit
set_option linter.unusedVariables false

namespace CrcSumsL
theorem own : ownKnob Try.prog.godebug = none := by kernel_rfl

set_option maxHeartbeats 4000000 in
theorem walk (w : World) (v : Value) (l : List Int) (hb : Bytes l) (h : Rd w v l) (v' : Value) (l' : List Int) (hb' : Bytes l') (h' : Rd w v' l') :
    Calls Try.prog 3 #[v, v'] w fun e w' => e = .returned (.bool true) ∧ Below w.heap.size w w' := by
  have HA : Hid (Bytes l) := hb
  have H : Hid (Rd w v l) := h
  have HB : Hid (Bytes l') := hb'
  have H' : Hid (Rd w v' l') := h'
  have HU : Hid (Bytes (l ++ l')) := hb.append hb'
  have la := sum_lt hb
  obtain ⟨ao, cap, rfl, hc, hm, -⟩ := h
  obtain ⟨n, hn⟩ : ∃ n, l.length = n := ⟨_, rfl⟩
  rw [hn] at hc H ⊢
  have HN := (show Hid _ from hn)
  obtain ⟨ao', cap', rfl, hc', hm', -⟩ := h'
  obtain ⟨n', hn'⟩ : ∃ n, l'.length = n := ⟨_, rfl⟩
  rw [hn'] at hc' H' ⊢
  have HN' := (show Hid _ from hn')
  clear hb hb' hn hn'
  by_cases h1 : 3000 < n
  · go_enter Try.func3, Try.ntmps3
    go_wp2_with fail
    refine (alive_any _).mono ?_; rintro e w1 ⟨rfl, b1⟩
    go_wp2_with fail
    go_ret
    exact ⟨rfl, b1⟩
  by_cases h2 : 3000 < n'
  · go_enter Try.func3, Try.ntmps3
    go_wp2_with fail
    refine (alive_any _).mono ?_; rintro e w1 ⟨rfl, b1⟩
    go_wp2_with fail
    go_ret
    exact ⟨rfl, b1⟩
  · obtain ⟨sa, hsa⟩ : ∃ s, sum l = s := ⟨_, rfl⟩
    obtain ⟨sb, hsb⟩ : ∃ s, sum l' = s := ⟨_, rfl⟩
    obtain ⟨su, hsu⟩ : ∃ s, sum (l ++ l') = s := ⟨_, rfl⟩
    obtain ⟨st, hst⟩ : ∃ s, strOfNums (l ++ four (sum l)) = s := ⟨_, rfl⟩
    have SA := (show Hid _ from hsa)
    have SB := (show Hid _ from hsb)
    have SU := (show Hid _ from hsu)
    have ST := (show Hid _ from hst)
    have SM : Hid (more sa l' = su) := by
      have : more sa l' = su := by rw [← hsa, ← hsu, sum_append]
      exact this
    have SZ : Hid (more 0 l' = sb) := hsb
    rw [hsa] at la
    clear hsa hsb hsu hst
    have HO : Hid (Own (w.alloc (.cells #[] 5)) w.heap.size (.slice (some ⟨w.heap.size, 0, none⟩) 0 0) []) := Own.new w w.heap.size (Nat.le_refl _) [] 0 rfl (by omega)
    have HR : Hid (Rd (w.alloc (.cells #[] 5)) (.slice ao n cap) l) := H.out.below ((Below.refl _ w).alloc (Nat.le_refl _) _)
    have HR' : Hid (Rd (w.alloc (.cells #[] 5)) (.slice ao' n' cap') l') := H'.out.below ((Below.refl _ w).alloc (Nat.le_refl _) _)
    go_enter Try.func3, Try.ntmps3
    go_wp2_with (first
      | (at_builtin; refine app_wp rfl (.tmp 15) (.tmp 16) rfl w.heap.size _ [] rfl (by exact HO.out) _ l rfl (by exact HR.out) (by rw [HN.out]; simp; omega) (by simp) ?_; intro u1 w1 own1 b1; rw [List.nil_append] at own1; have B1 : Below w.heap.size w w1 := ((Below.refl _ w).alloc (Nat.le_refl _) _).trans b1; have r1 := H'.out.below B1)
      | (at_builtin; refine app_wp rfl (.tmp 17) (.tmp 18) rfl w.heap.size _ l rfl (by exact own1) _ l' rfl (by exact r1) (by rw [HN.out, HN'.out]; omega) B1.size ?_; intro u w2 own2 b2))
    have B2 : Below w.heap.size w w2 := B1.trans b2
    obtain ⟨W0, hW⟩ : ∃ W0, w2.drew = W0 := ⟨_, rfl⟩
    have D0 : Below w.heap.size w W0 := by rw [← hW]; exact B2.drew
    have RA0 : Hid (Rd W0 (.slice ao n cap) l) := H.out.below D0
    have RB0 : Hid (Rd W0 (.slice ao' n' cap') l') := H'.out.below D0
    have RU0 : Hid (Rd W0 u (l ++ l')) := by
      have : Rd W0 u (l ++ l') := by rw [← hW]; exact own2.rd
      exact this
    clear own1 own2 r1 b1 b2 B1 B2 HO HR HR'
    refine wp_region_any (by kernel_rfl) ?_
    change wpAny _ _ _ _ _ _ _ (World.drew _)
    rw [hW]
    clear hW
    refine wpAny_ready (rs := [0]) (by kernel_rfl) (by simp) ?_
    refine AllReady.cons rfl (fun K hK => ?_) AllReady.nil
    go_simp
    go_wp2_with (go_at_call 8; refine (alive_any _).mono ?_; rintro e W1 ⟨rfl, b⟩; have D1 := bup D0 (Nat.le_refl _) b; have RA1 : Hid (Rd W1 (.slice ao n cap) l) := RA0.out.below b; have RB1 : Hid (Rd W1 (.slice ao' n' cap') l') := RB0.out.below b; have RU1 : Hid (Rd W1 u (l ++ l')) := RU0.out.below b; clear b D0 RA0 RB0 RU0)
    refine take_to (i := 1) (d := some 21) (v := .bool true) rfl rfl (by kernel_rfl) (by kernel_rfl) (by kernel_rfl) (fun _ _ _ h => h) (Or.inl ⟨by rfl, fun w => by go_simp⟩) ?_
    simp only [Act.put, List.setIfInBounds_toArray, List.set_cons_zero, List.set_cons_succ]
    refine take_to (i := 2) (d := some 22) (v := .slice ao n cap) rfl rfl (by kernel_rfl) (by kernel_rfl) (by kernel_rfl) (fun _ _ _ h => h) (Or.inl ⟨by rfl, fun w => by go_simp⟩) ?_
    simp only [Act.put, List.setIfInBounds_toArray, List.set_cons_zero, List.set_cons_succ]
    refine take_to (i := 4) (d := some 24) (v := .slice ao n cap) rfl rfl (by kernel_rfl) (by kernel_rfl) (by kernel_rfl) (fun _ _ _ h => h) (Or.inl ⟨by rfl, fun w => by go_simp⟩) ?_
    simp only [Act.put, List.setIfInBounds_toArray, List.set_cons_zero, List.set_cons_succ]
    refine wpAny_ready (rs := [3]) (by kernel_rfl) (by simp) ?_
    refine AllReady.cons rfl (fun K hK => ?_) AllReady.nil
    go_simp
    go_wp2_with (go_at_call 9; refine (sum_any _ _ l HA.out RA1.out).mono ?_; rw [SA.out]; rintro e W2 ⟨rfl, b⟩; have D2 := bup D1 (Nat.le_refl _) b; have RA2 : Hid (Rd W2 (.slice ao n cap) l) := RA1.out.below b; have RB2 : Hid (Rd W2 (.slice ao' n' cap') l') := RB1.out.below b; have RU2 : Hid (Rd W2 u (l ++ l')) := RU1.out.below b; clear b D1 RA1 RB1 RU1)
    refine wpAny_ready (rs := [5]) (by kernel_rfl) (by simp) ?_
    refine AllReady.cons rfl (fun K hK => ?_) AllReady.nil
    go_simp
    go_wp2_with (go_at_call 10; refine (rsum_any _ _ l HA.out RA2.out).mono ?_; rw [SA.out]; rintro e W' ⟨rfl, rfl⟩)
    refine take_to (i := 6) (d := some 26) (v := .bool true) rfl rfl (by kernel_rfl) (by kernel_rfl) (by kernel_rfl) (fun _ _ _ h => h) (Or.inl ⟨by rfl, fun w => by go_simp⟩) ?_
    simp only [Act.put, List.setIfInBounds_toArray, List.set_cons_zero, List.set_cons_succ]
    refine take_to (i := 7) (d := some 27) (v := .bool true) rfl rfl (by kernel_rfl) (by kernel_rfl) (by kernel_rfl) (fun _ _ _ h => h) (Or.inl ⟨by rfl, fun w => by go_simp⟩) ?_
    simp only [Act.put, List.setIfInBounds_toArray, List.set_cons_zero, List.set_cons_succ]
    refine take_to (i := 8) (d := some 28) (v := .bool true) rfl rfl (by kernel_rfl) (by kernel_rfl) (by kernel_rfl) (fun _ _ _ h => h) (Or.inl ⟨by rfl, fun w => by go_simp⟩) ?_
    simp only [Act.put, List.setIfInBounds_toArray, List.set_cons_zero, List.set_cons_succ]
    refine take_to (i := 9) (d := some 29) (v := .slice ao n cap) rfl rfl (by kernel_rfl) (by kernel_rfl) (by kernel_rfl) (fun _ _ _ h => h) (Or.inl ⟨by rfl, fun w => by go_simp⟩) ?_
    simp only [Act.put, List.setIfInBounds_toArray, List.set_cons_zero, List.set_cons_succ]
    refine take_to (i := 11) (d := some 31) (v := .slice ao' n' cap') rfl rfl (by kernel_rfl) (by kernel_rfl) (by kernel_rfl) (fun _ _ _ h => h) (Or.inl ⟨by rfl, fun w => by go_simp⟩) ?_
    simp only [Act.put, List.setIfInBounds_toArray, List.set_cons_zero, List.set_cons_succ]
    refine take_to (i := 13) (d := some 33) (v := u) rfl rfl (by kernel_rfl) (by kernel_rfl) (by kernel_rfl) (fun _ _ _ h => h) (Or.inl ⟨by rfl, fun w => by go_simp⟩) ?_
    simp only [Act.put, List.setIfInBounds_toArray, List.set_cons_zero, List.set_cons_succ]
    refine wpAny_ready (rs := [10]) (by kernel_rfl) (by simp) ?_
    refine AllReady.cons rfl (fun K hK => ?_) AllReady.nil
    go_simp
    go_wp2_with (go_at_call 9; refine (sum_any _ _ l HA.out RA2.out).mono ?_; rw [SA.out]; rintro e W3 ⟨rfl, b⟩; have D3 := bup D2 (Nat.le_refl _) b; have RA3 : Hid (Rd W3 (.slice ao n cap) l) := RA2.out.below b; have RB3 : Hid (Rd W3 (.slice ao' n' cap') l') := RB2.out.below b; have RU3 : Hid (Rd W3 u (l ++ l')) := RU2.out.below b; clear b D2 RA2 RB2 RU2)
    refine wpAny_ready (rs := [12]) (by kernel_rfl) (by simp) ?_
    refine AllReady.cons rfl (fun K hK => ?_) AllReady.nil
    go_simp
    go_wp2_with (go_at_call 11; refine (more_any _ sa la _ l' HB.out RB3.out).mono ?_; rw [SM.out]; rintro e W4 ⟨rfl, b⟩; have D4 := bup D3 (Nat.le_refl _) b; have RA4 : Hid (Rd W4 (.slice ao n cap) l) := RA3.out.below b; have RB4 : Hid (Rd W4 (.slice ao' n' cap') l') := RB3.out.below b; have RU4 : Hid (Rd W4 u (l ++ l')) := RU3.out.below b; clear b D3 RA3 RB3 RU3)
    refine wpAny_ready (rs := [14]) (by kernel_rfl) (by simp) ?_
    refine AllReady.cons rfl (fun K hK => ?_) AllReady.nil
    go_simp
    go_wp2_with (go_at_call 10; refine (rsum_any _ _ (l ++ l') HU.out RU4.out).mono ?_; rw [SU.out]; rintro e W' ⟨rfl, rfl⟩)
    refine take_to (i := 15) (d := some 35) (v := .bool true) rfl rfl (by kernel_rfl) (by kernel_rfl) (by kernel_rfl) (fun _ _ _ h => h) (Or.inl ⟨by rfl, fun w => by go_simp⟩) ?_
    simp only [Act.put, List.setIfInBounds_toArray, List.set_cons_zero, List.set_cons_succ]
    refine take_to (i := 16) (d := some 36) (v := .bool true) rfl rfl (by kernel_rfl) (by kernel_rfl) (by kernel_rfl) (fun _ _ _ h => h) (Or.inl ⟨by rfl, fun w => by go_simp⟩) ?_
    simp only [Act.put, List.setIfInBounds_toArray, List.set_cons_zero, List.set_cons_succ]
    refine take_to (i := 17) (d := some 37) (v := .bool true) rfl rfl (by kernel_rfl) (by kernel_rfl) (by kernel_rfl) (fun _ _ _ h => h) (Or.inl ⟨by rfl, fun w => by go_simp⟩) ?_
    simp only [Act.put, List.setIfInBounds_toArray, List.set_cons_zero, List.set_cons_succ]
    refine take_to (i := 18) (d := some 38) (v := .slice ao' n' cap') rfl rfl (by kernel_rfl) (by kernel_rfl) (by kernel_rfl) (fun _ _ _ h => h) (Or.inl ⟨by rfl, fun w => by go_simp⟩) ?_
    simp only [Act.put, List.setIfInBounds_toArray, List.set_cons_zero, List.set_cons_succ]
    refine take_to (i := 20) (d := some 40) (v := .slice ao' n' cap') rfl rfl (by kernel_rfl) (by kernel_rfl) (by kernel_rfl) (fun _ _ _ h => h) (Or.inl ⟨by rfl, fun w => by go_simp⟩) ?_
    simp only [Act.put, List.setIfInBounds_toArray, List.set_cons_zero, List.set_cons_succ]
    refine wpAny_ready (rs := [19]) (by kernel_rfl) (by simp) ?_
    refine AllReady.cons rfl (fun K hK => ?_) AllReady.nil
    go_simp
    go_wp2_with (go_at_call 11; refine (more_any _ 0 (by omega) _ l' HB.out RB4.out).mono ?_; rw [SZ.out]; rintro e W5 ⟨rfl, b⟩; have D5 := bup D4 (Nat.le_refl _) b; have RA5 : Hid (Rd W5 (.slice ao n cap) l) := RA4.out.below b; have RB5 : Hid (Rd W5 (.slice ao' n' cap') l') := RB4.out.below b; have RU5 : Hid (Rd W5 u (l ++ l')) := RU4.out.below b; clear b D4 RA4 RB4 RU4)
    refine wpAny_ready (rs := [21]) (by kernel_rfl) (by simp) ?_
    refine AllReady.cons rfl (fun K hK => ?_) AllReady.nil
    go_simp
    go_wp2_with (go_at_call 9; refine (sum_any _ _ l' HB.out RB5.out).mono ?_; rw [SB.out]; rintro e W6 ⟨rfl, b⟩; have D6 := bup D5 (Nat.le_refl _) b; have RA6 : Hid (Rd W6 (.slice ao n cap) l) := RA5.out.below b; have RB6 : Hid (Rd W6 (.slice ao' n' cap') l') := RB5.out.below b; have RU6 : Hid (Rd W6 u (l ++ l')) := RU5.out.below b; clear b D5 RA5 RB5 RU5)
    refine take_to (i := 22) (d := some 42) (v := .bool true) rfl rfl (by kernel_rfl) (by kernel_rfl) (by kernel_rfl) (fun _ _ _ h => h) (Or.inl ⟨by rfl, fun w => by go_simp⟩) ?_
    simp only [Act.put, List.setIfInBounds_toArray, List.set_cons_zero, List.set_cons_succ]
    refine take_to (i := 23) (d := some 43) (v := .bool true) rfl rfl (by kernel_rfl) (by kernel_rfl) (by kernel_rfl) (fun _ _ _ h => h) (Or.inl ⟨by rfl, fun w => by go_simp⟩) ?_
    simp only [Act.put, List.setIfInBounds_toArray, List.set_cons_zero, List.set_cons_succ]
    refine take_to (i := 24) (d := some 44) (v := .bool true) rfl rfl (by kernel_rfl) (by kernel_rfl) (by kernel_rfl) (fun _ _ _ h => h) (Or.inl ⟨by rfl, fun w => by go_simp⟩) ?_
    simp only [Act.put, List.setIfInBounds_toArray, List.set_cons_zero, List.set_cons_succ]
    refine take_to (i := 25) (d := some 45) (v := .slice ao n cap) rfl rfl (by kernel_rfl) (by kernel_rfl) (by kernel_rfl) (fun _ _ _ h => h) (Or.inl ⟨by rfl, fun w => by go_simp⟩) ?_
    simp only [Act.put, List.setIfInBounds_toArray, List.set_cons_zero, List.set_cons_succ]
    refine take_to (i := 28) (d := some 48) (v := .slice ao n cap) rfl rfl (by kernel_rfl) (by kernel_rfl) (by kernel_rfl) (fun _ _ _ h => h) (Or.inl ⟨by rfl, fun w => by go_simp⟩) ?_
    simp only [Act.put, List.setIfInBounds_toArray, List.set_cons_zero, List.set_cons_succ]
    refine wpAny_ready (rs := [26]) (by kernel_rfl) (by simp) ?_
    refine AllReady.cons rfl (fun K hK => ?_) AllReady.nil
    go_simp
    go_wp2_with (go_at_call 12; refine (seal_any _ _ l HA.out RA6.out (by rw [HN.out]; omega)).mono ?_; rintro e W9 ⟨u9, rfl, own9, b⟩; have D9 := bup D6 (Nat.le_refl _) b; have RA9 : Hid (Rd W9 (.slice ao n cap) l) := RA6.out.below b; have R9 : Hid (Rd W9 u9 (l ++ four (sum l))) := own9.rd; have t9 := str_run R9.out; rw [ST.out] at t9; clear b own9 D6 RA6 RB6 RU6)
    refine wpAny_ready (rs := [27, 29]) (by kernel_rfl) (by simp) ?_
    refine AllReady.cons rfl (fun K hK => ?_) ?_
    · go_simp
      refine hK _ _ ?_; clear hK K
      refine wpAny_ready (rs := [29]) (by kernel_rfl) (by simp) ?_
      refine AllReady.cons rfl (fun K hK => ?_) ?_
      · go_simp
        go_wp2_with (go_at_call 13; refine (rseal_any _ _ l HA.out RA9.out (by rw [HN.out]; omega)).mono ?_; rintro e W10 ⟨u10, rfl, own10, b⟩; have D10 := bup D9 (Nat.le_refl _) b; have R10 : Hid (Rd W10 u9 (l ++ four (sum l))) := R9.out.below b; have t10 := str_run R10.out; have s10 := str_run own10.rd; rw [ST.out] at t10 s10; clear b own10)
        refine wpAny_ready (rs := [30]) (by kernel_rfl) (by simp) ?_
        refine AllReady.cons rfl (fun K hK => ?_) ?_
        · go_simp
          refine hK _ _ ?_; clear hK K
          refine take_to (i := 31) (d := some 51) (v := .bool true) rfl rfl (by kernel_rfl) (by kernel_rfl) (by kernel_rfl) (fun _ _ _ h => h) (Or.inl ⟨by rfl, fun w => by go_simp⟩) ?_
          simp only [Act.put, List.setIfInBounds_toArray, List.set_cons_zero, List.set_cons_succ]
          refine take_to (i := 32) (d := some 52) (v := .bool true) rfl rfl (by kernel_rfl) (by kernel_rfl) (by kernel_rfl) (fun _ _ _ h => h) (Or.inl ⟨by rfl, fun w => by go_simp⟩) ?_
          simp only [Act.put, List.setIfInBounds_toArray, List.set_cons_zero, List.set_cons_succ]
          refine take_to (i := 33) (d := some 4) (v := .bool true) rfl rfl (by kernel_rfl) (by kernel_rfl) (by kernel_rfl) (fun _ _ _ h => h) (Or.inl ⟨by rfl, fun w => by go_simp⟩) ?_
          simp only [Act.put, List.setIfInBounds_toArray, List.set_cons_zero, List.set_cons_succ]
          refine wpAny_done (by kernel_rfl) ?_ _
          go_wp2_with fail
          go_ret
          exact ⟨rfl, D10⟩
        exact AllReady.nil
      exact AllReady.nil
    refine AllReady.cons rfl (fun K hK => ?_) ?_
    · go_simp
      go_wp2_with (go_at_call 13; refine (rseal_any _ _ l HA.out RA9.out (by rw [HN.out]; omega)).mono ?_; rintro e W10 ⟨u10, rfl, own10, b⟩; have D10 := bup D9 (Nat.le_refl _) b; have R10 : Hid (Rd W10 u9 (l ++ four (sum l))) := R9.out.below b; have t10 := str_run R10.out; have s10 := str_run own10.rd; rw [ST.out] at t10 s10; clear b own10)
      refine wpAny_ready (rs := [27, 30]) (by kernel_rfl) (by simp) ?_
      refine AllReady.cons rfl (fun K hK => ?_) ?_
      · go_simp
        refine hK _ _ ?_; clear hK K
        refine wpAny_ready (rs := [30]) (by kernel_rfl) (by simp) ?_
        refine AllReady.cons rfl (fun K hK => ?_) ?_
        · go_simp
          refine hK _ _ ?_; clear hK K
          refine take_to (i := 31) (d := some 51) (v := .bool true) rfl rfl (by kernel_rfl) (by kernel_rfl) (by kernel_rfl) (fun _ _ _ h => h) (Or.inl ⟨by rfl, fun w => by go_simp⟩) ?_
          simp only [Act.put, List.setIfInBounds_toArray, List.set_cons_zero, List.set_cons_succ]
          refine take_to (i := 32) (d := some 52) (v := .bool true) rfl rfl (by kernel_rfl) (by kernel_rfl) (by kernel_rfl) (fun _ _ _ h => h) (Or.inl ⟨by rfl, fun w => by go_simp⟩) ?_
          simp only [Act.put, List.setIfInBounds_toArray, List.set_cons_zero, List.set_cons_succ]
          refine take_to (i := 33) (d := some 4) (v := .bool true) rfl rfl (by kernel_rfl) (by kernel_rfl) (by kernel_rfl) (fun _ _ _ h => h) (Or.inl ⟨by rfl, fun w => by go_simp⟩) ?_
          simp only [Act.put, List.setIfInBounds_toArray, List.set_cons_zero, List.set_cons_succ]
          refine wpAny_done (by kernel_rfl) ?_ _
          go_wp2_with fail
          go_ret
          exact ⟨rfl, D10⟩
        exact AllReady.nil
      refine AllReady.cons rfl (fun K hK => ?_) ?_
      · go_simp
        refine hK _ _ ?_; clear hK K
        refine wpAny_ready (rs := [27]) (by kernel_rfl) (by simp) ?_
        refine AllReady.cons rfl (fun K hK => ?_) ?_
        · go_simp
          refine hK _ _ ?_; clear hK K
          refine take_to (i := 31) (d := some 51) (v := .bool true) rfl rfl (by kernel_rfl) (by kernel_rfl) (by kernel_rfl) (fun _ _ _ h => h) (Or.inl ⟨by rfl, fun w => by go_simp⟩) ?_
          simp only [Act.put, List.setIfInBounds_toArray, List.set_cons_zero, List.set_cons_succ]
          refine take_to (i := 32) (d := some 52) (v := .bool true) rfl rfl (by kernel_rfl) (by kernel_rfl) (by kernel_rfl) (fun _ _ _ h => h) (Or.inl ⟨by rfl, fun w => by go_simp⟩) ?_
          simp only [Act.put, List.setIfInBounds_toArray, List.set_cons_zero, List.set_cons_succ]
          refine take_to (i := 33) (d := some 4) (v := .bool true) rfl rfl (by kernel_rfl) (by kernel_rfl) (by kernel_rfl) (fun _ _ _ h => h) (Or.inl ⟨by rfl, fun w => by go_simp⟩) ?_
          simp only [Act.put, List.setIfInBounds_toArray, List.set_cons_zero, List.set_cons_succ]
          refine wpAny_done (by kernel_rfl) ?_ _
          go_wp2_with fail
          go_ret
          exact ⟨rfl, D10⟩
        exact AllReady.nil
      exact AllReady.nil
    exact AllReady.nil

set_option maxRecDepth 100000 in
theorem lifted (os : Os) (started : os.Started) (H : Type) (enc : TypeId × Value → H) :
    ReturnsInHanded {} Try.checked os 3 .any (Rows.crcSumsSpec.pre6 enc Try.prog Try.f3 Rows.crcSumsRow.domain false) (Rows.crcSumsSpec.post enc Try.prog Try.f3 false true false false) := by
  refine returnsInHanded_of_change (C := Try.checked) own started (by kernel_rfl) Try.func3
    (ChangeSpec.witness6 (enc := enc) (C := Try.checked) false ⟨#[], #[.slice none 0 0, .slice none 0 0], []⟩ 8 (by kernel_rfl) (by kernel_rfl) (by kernel_rfl) (by kernel_rfl)) ?_
  intro W base args ds gs before hval0 hW hcnd _
  have hval : ∀ (j : Nat) t v, Try.f3.params[j]? = some t → args[j]? = some v → Value.okWide Try.prog W .any base t v := hval0
  have hW' := hW
  obtain ⟨p, q, hA0, hV, rfl, hfz, hnd⟩ := hW
  have hA : DataW.TrodAll enc Try.prog W 0 (fun _ => true) true Try.f3.params.toList args.toList ds p := hA0
  rw [Try.params3] at hA hval
  obtain ⟨v0, vs0, d0, ds0, p0, q0, hargs, rfl, rfl, h0, r0⟩ := trodAll_cons hA
  obtain ⟨v1, vs1, d1, ds1, p1, q1, rfl, rfl, rfl, h1, r1⟩ := trodAll_cons r0
  obtain ⟨rfl, rfl, rfl⟩ := trodAll_nil r1
  obtain rfl : args = #[v0, v1] := by cases args; simp_all
  obtain ⟨rfl, rfl⟩ := trodVars_none hV
  have hlt := hW'.lt
  have k0 := h0
  obtain ⟨l0, b0, e0⟩ := open_u8s (hval 0 22 v0 rfl rfl) h0
  have k1 := h1
  obtain ⟨l1, b1, e1⟩ := open_u8s (hval 1 22 v1 rfl rfl) h1
  clear hA0 hval0
  refine (walk W v0 l0 b0 e0 v1 l1 b1 e1).mono fun e W' ⟨he, hg⟩ => ?_
  subst he
  exact ⟨_, rfl, post_of_below hW' (fun _ _ _ => (trodAll_cons_mk (shut_bool Try.underlying4 _) trodAll_mk0)) (trodAll_cons_mk (Below.trod laidOut (by kernel_rfl) (of_decide_eq_true (by kernel_rfl)) k0 hg (fun x hx => by first | exact absurd hx (by simp) | exact hlt x (by simp [hx]))) (trodAll_cons_mk (Below.trod laidOut (by kernel_rfl) (of_decide_eq_true (by kernel_rfl)) k1 hg (fun x hx => by first | exact absurd hx (by simp) | exact hlt x (by simp [hx]))) trodAll_mk0)) rfl hg⟩

theorem over : Rows.crcSumsRow.holds Try.pinned (OpenSpec.ofChange Rows.crcSumsSpec) :=
  OpenClaim.holds_of_wide 3 Try.f3 rfl rfl rfl rfl rfl rfl rfl ⟨rfl, rfl, rfl, rfl, rfl⟩ rfl rfl rfl rfl rfl (by kernel_rfl) Try.func3 (by kernel_rfl)
    (of_decide_eq_true (by kernel_rfl)) (by unfold Func.isWrapper; first | (rw [if_pos (by decide +kernel)]; kernel_rfl) | (rw [if_neg (by decide +kernel)]; exact ⟨rfl, rfl⟩))
    (fun os started H enc _ => lifted os started H enc)
end CrcSumsL

theorem crcSums_proved : Rows.CrcSumsSaid := CrcSumsL.over
#print axioms crcSums_proved
end Go.Proofs.Ythofloblheodbaa
