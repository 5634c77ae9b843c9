/-
  Texts St7, St8 in one.
-/
import Derived.Test.YtlpdhglibgnkoaaGreatP29
namespace Go.Proofs.YtlpdhglibgnkoaaGreat
open Go.RowKit
set_option linter.unusedVariables false
set_option maxRecDepth 20000

def tickE (M : Nat) (L : List Sn) (k : Int) : Int := if isS L k = true then 12 else if L.length = M ∧ untS L k = 0 then 13 else 0
set_option maxHeartbeats 2000000 in
theorem st_tick (w : World) (B S R : Nat) (v : Value) (rs : Rs) (s : Sto) (h : StoV w B S R v rs s) (k : Int) :
    Calls Tryz.prog 29 #[.pointer (some ⟨S, 0, none⟩), .int .i64 k] w fun e w' => e = .returned (.int .i64 (tickE s.M s.L k)) ∧ Below w.heap.size w w' := by
  have HS : Hid (StoV w B S R v rs s) := h
  obtain ⟨ao, n, c, et, r⟩ := h.get k
  have hat := h.isAt k
  have hlen := h.len
  have hunt := h.untl k
  obtain ⟨T0, hT0⟩ : ∃ x, (getS s.L k).t = x := ⟨_, rfl⟩
  obtain ⟨M0, hM0⟩ : ∃ x, (getS s.L k).m = x := ⟨_, rfl⟩
  rw [hT0, hM0] at et
  have HT : Hid (getX rs.L k (.agg #[.int .i64 0, .int .i64 0, .slice none 0 0]) = snV T0 M0 (.slice ao n c)) := et
  obtain ⟨te, hte⟩ : ∃ x, tickE s.M s.L k = x := ⟨_, rfl⟩
  have E1 : Hid (isS s.L k = true → te = 12) := fun h => by rw [← hte]; unfold tickE; rw [if_pos h]
  have E2 : Hid (isS s.L k = false → s.L.length = s.M → untS s.L k = 0 → te = 13) := fun h h1 h2 => by rw [← hte]; unfold tickE; rw [if_neg (by rw [h]; simp), if_pos ⟨h1, h2⟩]
  have E3 : Hid (isS s.L k = false → ¬ (s.L.length = s.M ∧ untS s.L k = 0) → te = 0) := fun h h1 => by rw [← hte]; unfold tickE; rw [if_neg (by rw [h]; simp), if_neg h1]
  obtain ⟨qb, hqb⟩ : ∃ x, isS s.L k = x := ⟨_, rfl⟩
  rw [hqb] at hat E1 E2 E3
  have HQ : Hid (Go.Proofs.YtlpdhglibgnkoaaGreat.isAt rs.L k = qb) := hat
  obtain ⟨nl, hnl⟩ : ∃ x, s.L.length = x := ⟨_, rfl⟩
  obtain ⟨nu, hnu⟩ : ∃ x, untS s.L k = x := ⟨_, rfl⟩
  rw [hnl] at hlen E2 E3
  rw [hnu] at hunt E2 E3
  have HLN : Hid (rs.L.length = nl) := hlen
  have HUN : Hid (Go.Proofs.YtlpdhglibgnkoaaGreat.untl rs.L k = nu) := hunt
  obtain ⟨M, hM⟩ : ∃ x, s.M = x := ⟨_, rfl⟩
  have HM : Hid (s.M = M) := hM
  rw [hM] at E2 E3
  rw [hte]
  have c1 := h.c1
  clear hT0 hM0 r et hat hqb hlen hunt hnl hnu hM hte h
  go_enter Tryz.func29, Tryz.ntmps29
  go_wp2_with fail
  refine (get_anyP w B R v rs HS.out.rng k).mono ?_; rintro e w1 ⟨rfl, b1⟩
  have S1 : Hid (StoV w1 B S R v rs s) := HS.out.below b1
  rw [HT.out, HQ.out]
  clear HS c1
  cases qb
  · go_upto_region 4 with fail
    generalize hV : w1.alloc (.cells #[.int .i64 T0, .int .i64 M0, .slice ao n c] 45) = W2
    obtain ⟨X2, bn, -⟩ := boxed hV
    have S2 : Hid (StoV W2 B S R v rs s) := S1.out.below bn
    have B2 := bup b1 (Nat.le_refl _) bn
    clear hV bn b1 S1 X2
    have c0 := S2.out.c0
    have c1 := S2.out.c1
    rw [HM.out] at c0
    by_cases hf : nl = M
    · subst hf
      go_region_held3 (fun w' => w'.cell? ⟨S, 0, none⟩ = some (.int .i64 (nl : Nat)) ∧ w'.cell? ⟨S, 1, none⟩ = some (.pointer (some ⟨R, 0, none⟩))) (first | with_reducible exact ⟨c0, c1⟩ | with_reducible exact ⟨c0_b, c1_b⟩ | go_keep)
        (first
          | (go_at_call 21; refine (len_anyP _ B R v rs (S2.out.drewN 1).rng).mono ?_; rintro e w3 ⟨rfl, rfl⟩; rw [HLN.out])
          | (go_at_call 41; refine (until_anyP _ B R v rs (S2.out.drewN 1).rng k).mono ?_; rintro e w4 ⟨rfl, b4⟩; rw [HUN.out]; have S4 : Hid (StoV w4 B S R v rs s) := (S2.out.drewN 1).below b4; have B4 : Below w.heap.size w w4 := bup B2.drew (Nat.le_refl _) b4; have c0_b := S4.out.c0; have c1_b := S4.out.c1; rw [HM.out] at c0_b))
      by_cases hu : nu = 0
      · have e := E2.out (by trivial) (by trivial) hu
        subst e hu
        go_wp2_with fail
        go_ret
        exact ⟨rfl, B4⟩
      · have e := E3.out (by trivial) (fun q => hu q.2)
        have d0 : ((nu : Int) == 0) = false := by simp; omega
        have d1 : decide ((nu : Int) = 0) = false := by simp; omega
        subst e
        go_wp2_with fail
        go_ret
        exact ⟨rfl, B4⟩
    · have e := E3.out (by trivial) (fun q => hf q.1)
      have d0 : ((nl : Int) == (M : Int)) = false := by simp; omega
      have d1 : decide ((nl : Int) = (M : Int)) = false := by simp; omega
      have d2 : decide (nl = M) = false := by simp; omega
      have d3 : ¬ ((nl : Int) = (M : Int)) := by omega
      have d4 : (nl == M) = false := by simp; omega
      subst e
      refine wp_region_any (by kernel_rfl) ?_
      change wpAny _ _ _ _ _ _ _ (World.drew _)
      refine take_to (i := 0) (d := some 17) (v := (.pointer (some ⟨S, 0, none⟩))) rfl rfl (by kernel_rfl) (by kernel_rfl) (by kernel_rfl) (fun _ _ _ h => h) (Or.inl ⟨by rfl, fun w => by go_simp⟩) ?_
      simp only [Act.put, List.setIfInBounds_toArray, List.set_cons_zero, List.set_cons_succ]
      refine take_to (i := 1) (d := some 18) (v := (.pointer (some ⟨S, 0, none⟩))) rfl rfl (by kernel_rfl) (by kernel_rfl) (by kernel_rfl) (fun _ _ _ h => h) (Or.inl ⟨by rfl, fun w => by go_simp⟩) ?_
      simp only [Act.put, List.setIfInBounds_toArray, List.set_cons_zero, List.set_cons_succ]
      refine take_to (i := 2) (d := some 19) (v := (.pointer (some ⟨S, 1, none⟩))) rfl rfl (by kernel_rfl) (by kernel_rfl) (by kernel_rfl) (fun _ _ _ h => h) (Or.inl ⟨by rfl, fun w => by go_simp⟩) ?_
      simp only [Act.put, List.setIfInBounds_toArray, List.set_cons_zero, List.set_cons_succ]
      refine take_to (i := 5) (d := some 22) (v := (.pointer (some ⟨S, 0, none⟩))) rfl rfl (by kernel_rfl) (by kernel_rfl) (by kernel_rfl) (fun _ _ _ h => h) (Or.inl ⟨by rfl, fun w => by go_simp⟩) ?_
      simp only [Act.put, List.setIfInBounds_toArray, List.set_cons_zero, List.set_cons_succ]
      refine take_to (i := 6) (d := some 23) (v := (.pointer (some ⟨S, 0, none⟩))) rfl rfl (by kernel_rfl) (by kernel_rfl) (by kernel_rfl) (fun _ _ _ h => h) (Or.inl ⟨by rfl, fun w => by go_simp⟩) ?_
      simp only [Act.put, List.setIfInBounds_toArray, List.set_cons_zero, List.set_cons_succ]
      refine take_to (i := 7) (d := some 24) (v := (.pointer (some ⟨S, 0, none⟩))) rfl rfl (by kernel_rfl) (by kernel_rfl) (by kernel_rfl) (fun _ _ _ h => h) (Or.inl ⟨by rfl, fun w => by go_simp⟩) ?_
      simp only [Act.put, List.setIfInBounds_toArray, List.set_cons_zero, List.set_cons_succ]
      refine wpAny_ready (rs := [3, 8]) (by kernel_rfl) (by simp) ?_
      refine AllReady.cons rfl (fun K hK => ?_) ?_
      · go_simp
        refine hK _ _ ?_; clear hK K
        refine wpAny_ready (rs := [4, 8]) (by kernel_rfl) (by simp) ?_
        refine AllReady.cons rfl (fun K hK => ?_) ?_
        · go_simp
          go_wp2_with (go_at_call 21; refine (len_anyP _ B R v rs (S2.out.drewN 1).rng).mono ?_; rintro e w3 ⟨rfl, rfl⟩; rw [HLN.out])
          refine wpAny_ready (rs := [8]) (by kernel_rfl) (by simp) ?_
          refine AllReady.cons rfl (fun K hK => ?_) ?_
          · go_simp
            refine hK _ _ ?_; clear hK K
            refine take_to (i := 9) (d := some 26) (v := (.bool false)) rfl rfl (by kernel_rfl) (by kernel_rfl) (by kernel_rfl) (fun _ _ _ h => h) (Or.inl ⟨by rfl, fun w => by go_simp⟩) ?_
            simp only [Act.put, List.setIfInBounds_toArray, List.set_cons_zero, List.set_cons_succ]
            refine take_to (i := 10) (d := some 27) (v := (.bool false)) rfl rfl (by kernel_rfl) (by kernel_rfl) (by kernel_rfl) (fun _ _ _ h => h) (Or.inl ⟨by rfl, fun w => by go_simp⟩) ?_
            simp only [Act.put, List.setIfInBounds_toArray, List.set_cons_zero, List.set_cons_succ]
            refine take_to (i := 11) (d := some 28) (v := undef) rfl rfl (by kernel_rfl) (by kernel_rfl) (by kernel_rfl) (fun _ _ _ h => h) (Or.inr ⟨by rfl, rfl⟩) ?_
            simp only [Act.put, List.setIfInBounds_toArray, List.set_cons_zero, List.set_cons_succ]
            refine take_to (i := 12) (d := some 29) (v := undef) rfl rfl (by kernel_rfl) (by kernel_rfl) (by kernel_rfl) (fun _ _ _ h => h) (Or.inr ⟨by rfl, rfl⟩) ?_
            simp only [Act.put, List.setIfInBounds_toArray, List.set_cons_zero, List.set_cons_succ]
            refine take_to (i := 13) (d := some 30) (v := undef) rfl rfl (by kernel_rfl) (by kernel_rfl) (by kernel_rfl) (fun _ _ _ h => h) (Or.inr ⟨by rfl, rfl⟩) ?_
            simp only [Act.put, List.setIfInBounds_toArray, List.set_cons_zero, List.set_cons_succ]
            refine take_to (i := 14) (d := some 31) (v := undef) rfl rfl (by kernel_rfl) (by kernel_rfl) (by kernel_rfl) (fun _ _ _ h => h) (Or.inr ⟨by rfl, rfl⟩) ?_
            simp only [Act.put, List.setIfInBounds_toArray, List.set_cons_zero, List.set_cons_succ]
            refine take_to (i := 15) (d := some 32) (v := undef) rfl rfl (by kernel_rfl) (by kernel_rfl) (by kernel_rfl) (fun _ _ _ h => h) (Or.inr ⟨by rfl, rfl⟩) ?_
            simp only [Act.put, List.setIfInBounds_toArray, List.set_cons_zero, List.set_cons_succ]
            refine take_to (i := 16) (d := some 33) (v := undef) rfl rfl (by kernel_rfl) (by kernel_rfl) (by kernel_rfl) (fun _ _ _ h => h) (Or.inr ⟨by rfl, rfl⟩) ?_
            simp only [Act.put, List.setIfInBounds_toArray, List.set_cons_zero, List.set_cons_succ]
            refine take_to (i := 17) (d := some 34) (v := undef) rfl rfl (by kernel_rfl) (by kernel_rfl) (by kernel_rfl) (fun _ _ _ h => h) (Or.inr ⟨by rfl, rfl⟩) ?_
            simp only [Act.put, List.setIfInBounds_toArray, List.set_cons_zero, List.set_cons_succ]
            refine take_to (i := 18) (d := some 35) (v := (.bool false)) rfl rfl (by kernel_rfl) (by kernel_rfl) (by kernel_rfl) (fun _ _ _ h => h) (Or.inl ⟨by rfl, fun w => by go_simp⟩) ?_
            simp only [Act.put, List.setIfInBounds_toArray, List.set_cons_zero, List.set_cons_succ]
            refine wpAny_done (by kernel_rfl) ?_ _
            go_wp2_with fail
            go_ret
            exact ⟨rfl, B2.drew⟩
          exact AllReady.nil
        refine AllReady.cons rfl (fun K hK => ?_) ?_
        · go_simp
          refine hK _ _ ?_; clear hK K
          refine wpAny_ready (rs := [4]) (by kernel_rfl) (by simp) ?_
          refine AllReady.cons rfl (fun K hK => ?_) ?_
          · go_simp
            go_wp2_with (go_at_call 21; refine (len_anyP _ B R v rs (S2.out.drewN 1).rng).mono ?_; rintro e w3 ⟨rfl, rfl⟩; rw [HLN.out])
            refine take_to (i := 9) (d := some 26) (v := (.bool false)) rfl rfl (by kernel_rfl) (by kernel_rfl) (by kernel_rfl) (fun _ _ _ h => h) (Or.inl ⟨by rfl, fun w => by go_simp⟩) ?_
            simp only [Act.put, List.setIfInBounds_toArray, List.set_cons_zero, List.set_cons_succ]
            refine take_to (i := 10) (d := some 27) (v := (.bool false)) rfl rfl (by kernel_rfl) (by kernel_rfl) (by kernel_rfl) (fun _ _ _ h => h) (Or.inl ⟨by rfl, fun w => by go_simp⟩) ?_
            simp only [Act.put, List.setIfInBounds_toArray, List.set_cons_zero, List.set_cons_succ]
            refine take_to (i := 11) (d := some 28) (v := undef) rfl rfl (by kernel_rfl) (by kernel_rfl) (by kernel_rfl) (fun _ _ _ h => h) (Or.inr ⟨by rfl, rfl⟩) ?_
            simp only [Act.put, List.setIfInBounds_toArray, List.set_cons_zero, List.set_cons_succ]
            refine take_to (i := 12) (d := some 29) (v := undef) rfl rfl (by kernel_rfl) (by kernel_rfl) (by kernel_rfl) (fun _ _ _ h => h) (Or.inr ⟨by rfl, rfl⟩) ?_
            simp only [Act.put, List.setIfInBounds_toArray, List.set_cons_zero, List.set_cons_succ]
            refine take_to (i := 13) (d := some 30) (v := undef) rfl rfl (by kernel_rfl) (by kernel_rfl) (by kernel_rfl) (fun _ _ _ h => h) (Or.inr ⟨by rfl, rfl⟩) ?_
            simp only [Act.put, List.setIfInBounds_toArray, List.set_cons_zero, List.set_cons_succ]
            refine take_to (i := 14) (d := some 31) (v := undef) rfl rfl (by kernel_rfl) (by kernel_rfl) (by kernel_rfl) (fun _ _ _ h => h) (Or.inr ⟨by rfl, rfl⟩) ?_
            simp only [Act.put, List.setIfInBounds_toArray, List.set_cons_zero, List.set_cons_succ]
            refine take_to (i := 15) (d := some 32) (v := undef) rfl rfl (by kernel_rfl) (by kernel_rfl) (by kernel_rfl) (fun _ _ _ h => h) (Or.inr ⟨by rfl, rfl⟩) ?_
            simp only [Act.put, List.setIfInBounds_toArray, List.set_cons_zero, List.set_cons_succ]
            refine take_to (i := 16) (d := some 33) (v := undef) rfl rfl (by kernel_rfl) (by kernel_rfl) (by kernel_rfl) (fun _ _ _ h => h) (Or.inr ⟨by rfl, rfl⟩) ?_
            simp only [Act.put, List.setIfInBounds_toArray, List.set_cons_zero, List.set_cons_succ]
            refine take_to (i := 17) (d := some 34) (v := undef) rfl rfl (by kernel_rfl) (by kernel_rfl) (by kernel_rfl) (fun _ _ _ h => h) (Or.inr ⟨by rfl, rfl⟩) ?_
            simp only [Act.put, List.setIfInBounds_toArray, List.set_cons_zero, List.set_cons_succ]
            refine take_to (i := 18) (d := some 35) (v := (.bool false)) rfl rfl (by kernel_rfl) (by kernel_rfl) (by kernel_rfl) (fun _ _ _ h => h) (Or.inl ⟨by rfl, fun w => by go_simp⟩) ?_
            simp only [Act.put, List.setIfInBounds_toArray, List.set_cons_zero, List.set_cons_succ]
            refine wpAny_done (by kernel_rfl) ?_ _
            go_wp2_with fail
            go_ret
            exact ⟨rfl, B2.drew⟩
          exact AllReady.nil
        exact AllReady.nil
      refine AllReady.cons rfl (fun K hK => ?_) ?_
      · go_simp
        refine hK _ _ ?_; clear hK K
        refine wpAny_ready (rs := [3]) (by kernel_rfl) (by simp) ?_
        refine AllReady.cons rfl (fun K hK => ?_) ?_
        · go_simp
          refine hK _ _ ?_; clear hK K
          refine wpAny_ready (rs := [4]) (by kernel_rfl) (by simp) ?_
          refine AllReady.cons rfl (fun K hK => ?_) ?_
          · go_simp
            go_wp2_with (go_at_call 21; refine (len_anyP _ B R v rs (S2.out.drewN 1).rng).mono ?_; rintro e w3 ⟨rfl, rfl⟩; rw [HLN.out])
            refine take_to (i := 9) (d := some 26) (v := (.bool false)) rfl rfl (by kernel_rfl) (by kernel_rfl) (by kernel_rfl) (fun _ _ _ h => h) (Or.inl ⟨by rfl, fun w => by go_simp⟩) ?_
            simp only [Act.put, List.setIfInBounds_toArray, List.set_cons_zero, List.set_cons_succ]
            refine take_to (i := 10) (d := some 27) (v := (.bool false)) rfl rfl (by kernel_rfl) (by kernel_rfl) (by kernel_rfl) (fun _ _ _ h => h) (Or.inl ⟨by rfl, fun w => by go_simp⟩) ?_
            simp only [Act.put, List.setIfInBounds_toArray, List.set_cons_zero, List.set_cons_succ]
            refine take_to (i := 11) (d := some 28) (v := undef) rfl rfl (by kernel_rfl) (by kernel_rfl) (by kernel_rfl) (fun _ _ _ h => h) (Or.inr ⟨by rfl, rfl⟩) ?_
            simp only [Act.put, List.setIfInBounds_toArray, List.set_cons_zero, List.set_cons_succ]
            refine take_to (i := 12) (d := some 29) (v := undef) rfl rfl (by kernel_rfl) (by kernel_rfl) (by kernel_rfl) (fun _ _ _ h => h) (Or.inr ⟨by rfl, rfl⟩) ?_
            simp only [Act.put, List.setIfInBounds_toArray, List.set_cons_zero, List.set_cons_succ]
            refine take_to (i := 13) (d := some 30) (v := undef) rfl rfl (by kernel_rfl) (by kernel_rfl) (by kernel_rfl) (fun _ _ _ h => h) (Or.inr ⟨by rfl, rfl⟩) ?_
            simp only [Act.put, List.setIfInBounds_toArray, List.set_cons_zero, List.set_cons_succ]
            refine take_to (i := 14) (d := some 31) (v := undef) rfl rfl (by kernel_rfl) (by kernel_rfl) (by kernel_rfl) (fun _ _ _ h => h) (Or.inr ⟨by rfl, rfl⟩) ?_
            simp only [Act.put, List.setIfInBounds_toArray, List.set_cons_zero, List.set_cons_succ]
            refine take_to (i := 15) (d := some 32) (v := undef) rfl rfl (by kernel_rfl) (by kernel_rfl) (by kernel_rfl) (fun _ _ _ h => h) (Or.inr ⟨by rfl, rfl⟩) ?_
            simp only [Act.put, List.setIfInBounds_toArray, List.set_cons_zero, List.set_cons_succ]
            refine take_to (i := 16) (d := some 33) (v := undef) rfl rfl (by kernel_rfl) (by kernel_rfl) (by kernel_rfl) (fun _ _ _ h => h) (Or.inr ⟨by rfl, rfl⟩) ?_
            simp only [Act.put, List.setIfInBounds_toArray, List.set_cons_zero, List.set_cons_succ]
            refine take_to (i := 17) (d := some 34) (v := undef) rfl rfl (by kernel_rfl) (by kernel_rfl) (by kernel_rfl) (fun _ _ _ h => h) (Or.inr ⟨by rfl, rfl⟩) ?_
            simp only [Act.put, List.setIfInBounds_toArray, List.set_cons_zero, List.set_cons_succ]
            refine take_to (i := 18) (d := some 35) (v := (.bool false)) rfl rfl (by kernel_rfl) (by kernel_rfl) (by kernel_rfl) (fun _ _ _ h => h) (Or.inl ⟨by rfl, fun w => by go_simp⟩) ?_
            simp only [Act.put, List.setIfInBounds_toArray, List.set_cons_zero, List.set_cons_succ]
            refine wpAny_done (by kernel_rfl) ?_ _
            go_wp2_with fail
            go_ret
            exact ⟨rfl, B2.drew⟩
          exact AllReady.nil
        exact AllReady.nil
      exact AllReady.nil
  · have e := E1.out (by trivial)
    subst e
    go_wp2_with fail
    go_ret
    exact ⟨rfl, b1.alloc b1.size _⟩
/-- At of a store's ring, wherever. -/
theorem st_ringAt (w : World) (B S R : Nat) (v : Value) (rs : Rs) (s : Sto) (h : StoV w B S R v rs s) (i : Int) :
    Calls Tryz.prog 22 #[.pointer (some ⟨R, 0, none⟩), .int .i64 i] w fun e w' => ∃ (kk t m : Int) (ao : Option Addr) (n c : Nat) (er : Int), e = .returned (.tuple #[.int .i64 kk, snV t m (.slice ao n c), .int .i64 er]) ∧ Below w.heap.size w w' ∧
      ((er = 0 ∧ 0 ≤ i ∧ i < (s.L.length : Int) ∧ m = (atS s.L i.toNat).m) ∨ (er = 3 ∧ (i < 0 ∨ (s.L.length : Int) ≤ i))) := by
  by_cases hi : i < 0 ∨ (s.L.length : Int) ≤ i
  · refine (at_outP w B R v rs h.rng i (by rw [h.len]; exact hi)).mono ?_
    rintro e w' ⟨rfl, b⟩
    exact ⟨0, 0, 0, none, 0, 0, 3, rfl, b, Or.inr ⟨rfl, hi⟩⟩
  · obtain ⟨j, rfl⟩ : ∃ j : Nat, i = j := ⟨i.toNat, by omega⟩
    have hj : j < s.L.length := by omega
    obtain ⟨ao, n, c, _, e2, _⟩ := h.at hj
    refine (at_inP w B R v rs h.rng j (by rw [h.len]; exact hj)).mono ?_
    rintro e w' ⟨rfl, b⟩
    rw [e2]
    exact ⟨_, _, _, ao, n, c, 0, rfl, b, Or.inl ⟨rfl, by omega, by omega, by simp⟩⟩
set_option maxHeartbeats 2000000 in
theorem st_time (w : World) (B S R : Nat) (v : Value) (rs : Rs) (s : Sto) (h : StoV w B S R v rs s) (hL : s.L.length ≤ 64) (x : Sn) (xo : Option Addr) (xn xc : Nat) :
    Calls Tryz.prog 35 #[.pointer (some ⟨S, 0, none⟩), snV x.t x.m (.slice xo xn xc)] w fun e w' => e = .returned (.int .i64 (if lateB s.L x = true then 16 else 0)) ∧ Below w.heap.size w w' := by
  have HS : Hid (StoV w B S R v rs s) := h
  have hunt := h.untl x.t
  obtain ⟨te, hte⟩ : ∃ e : Int, (if lateB s.L x = true then 16 else 0) = e := ⟨_, rfl⟩
  have E1 : Hid (0 < untS s.L x.t → x.m ≤ (atS s.L (untS s.L x.t - 1)).m → te = 16) := fun h1 h2 => by
    rw [← hte]; unfold lateB; rw [if_pos]; simp [h1, h2]
  have E2 : Hid (untS s.L x.t < s.L.length → (atS s.L (untS s.L x.t)).m ≤ x.m → te = 16) := fun h1 h2 => by
    rw [← hte]; unfold lateB; rw [if_pos]; simp [h1, h2]
  have E3 : Hid (¬ (0 < untS s.L x.t ∧ x.m ≤ (atS s.L (untS s.L x.t - 1)).m) → ¬ (untS s.L x.t < s.L.length ∧ (atS s.L (untS s.L x.t)).m ≤ x.m) → te = 0) := fun h1 h2 => by
    rw [← hte]; unfold lateB; rw [if_neg]
    intro q
    simp only [Bool.or_eq_true, Bool.and_eq_true, decide_eq_true_eq] at q
    rcases q with q | q
    · exact h1 q
    · exact h2 q
  rw [hte]
  obtain ⟨u, hu⟩ : ∃ u, untS s.L x.t = u := ⟨_, rfl⟩
  have hul : u ≤ s.L.length := by rw [← hu]; exact untS_le _ _
  rw [hu] at hunt E1 E2 E3
  obtain ⟨xt, xm, xE⟩ := x
  simp only at hunt E1 E2 E3 hu
  have HUN : Hid (Go.Proofs.YtlpdhglibgnkoaaGreat.untl rs.L xt = u) := hunt
  clear hte hunt hu h
  go_enter Tryz.func35, Tryz.ntmps35
  go_upto_region 1 with fail
  generalize hW : w.alloc (.cells #[.int .i64 xt, .int .i64 xm, .slice xo xn xc] 45) = W
  obtain ⟨X0, b0, -⟩ := boxed hW
  have S0 : Hid (StoV W B S R v rs s) := HS.out.below b0
  obtain ⟨X, hX⟩ : ∃ X, w.heap.size = X := ⟨_, rfl⟩
  have HX : Hid (w.heap.size = X) := hX
  rw [hX] at X0 b0
  rw [hX]
  clear hW hX HS
  have c1 := S0.out.c1
  have x0 := X0.cell 0 _ rfl
  have lx := X0.lt
  go_region_held3 (fun w' => w'.cell? ⟨S, 1, none⟩ = some (.pointer (some ⟨R, 0, none⟩)) ∧ w'.cell? ⟨X, 0, none⟩ = some (.int .i64 xt)) (first | with_reducible exact ⟨c1, x0⟩ | with_reducible exact ⟨c1_b, x0_b⟩ | go_keep)
    (first | (go_at_call 41; refine (until_anyP _ B R v rs (S0.out.drewN 1).rng xt).mono ?_; rintro e w1 ⟨rfl, b1⟩; rw [HUN.out]; have S1 : Hid (StoV w1 B S R v rs s) := (S0.out.drewN 1).below b1; have X1 := X0.drew.below b1 X0.lt; have B1 : Below X w w1 := bup b0.drew (Nat.le_of_eq HX.out.symm) b1; have c1_b := S1.out.c1; have x0_b := X1.cell 0 _ rfl))
  clear S0 X0 b0 b1 c1 x0 lx HUN c1_b x0_b
  have c1 := S1.out.c1
  have hw1 : IntKind.i64.wrap ((u : Int) - 1) = (u : Int) - 1 := by rw [IntKind.wrap_i64]; omega
  go_wp2_with fail
  refine (st_ringAt w1 B S R v rs s S1.out ((u : Int) - 1)).mono ?_; rintro e w2 ⟨k1, t1, m1, a1, n1, q1, er1, rfl, b2, hr1⟩
  have S2 : Hid (StoV w2 B S R v rs s) := S1.out.below b2
  have X2 := X1.below b2 X1.lt
  have B2 := bup B1 (Nat.le_of_eq HX.out.symm) b2
  clear S1 X1 B1 b2 c1
  go_upto_region 3 with fail
  generalize hV : w2.alloc (.cells #[.int .i64 t1, .int .i64 m1, .slice a1 n1 q1] 45) = W3
  obtain ⟨Y3, bn, -⟩ := boxed hV
  have S3 : Hid (StoV W3 B S R v rs s) := S2.out.below bn
  have X3 := X2.below bn X2.lt
  have B3 := bup B2 (Nat.le_of_eq HX.out.symm) bn
  obtain ⟨Y, hY⟩ : ∃ Y, w2.heap.size = Y := ⟨_, rfl⟩
  rw [hY] at Y3
  rw [hY]
  clear hV hY bn S2 X2 B2
  have x1 := X3.cell 1 _ rfl
  have lx := X3.lt
  have y1 := Y3.cell 1 _ rfl
  have ly := Y3.lt
  by_cases hA : er1 = 0 ∧ xm ≤ m1
  · obtain ⟨hA1, hA2⟩ := hA
    have e := E1.out (by omega) (by
      rcases hr1 with ⟨_, h0, h1, h2⟩ | ⟨h0, _⟩
      · rw [show u - 1 = ((u : Int) - 1).toNat by omega, ← h2]; exact hA2
      · omega)
    subst hA1 e
    have d0 : decide (xm ≤ m1) = true := by simpa using hA2
    go_wp2_with fail
    go_ret
    exact ⟨rfl, by rw [HX.out]; exact B3⟩
  have NA : ¬ (0 < u ∧ xm ≤ (atS s.L (u - 1)).m) := fun q => hA (by
    rcases hr1 with ⟨h0, h1, h2, h3⟩ | ⟨h0, h1⟩
    · refine ⟨h0, ?_⟩
      rw [h3, show ((u : Int) - 1).toNat = u - 1 by omega]; exact q.2
    · omega)
  have HNA : Hid (¬ (0 < u ∧ xm ≤ (atS s.L (u - 1)).m)) := NA
  have d0 : er1 = 0 → decide (xm ≤ m1) = false := fun h => by simp; have := fun q => hA ⟨h, q⟩; omega
  have HRR : er1 = 0 ∨ er1 = 3 := by
    rcases hr1 with ⟨h0, _⟩ | ⟨h0, _⟩
    · exact Or.inl h0
    · exact Or.inr h0
  clear hr1 NA hA E1
  rcases HRR with h1 | h1
  all_goals (subst h1
             (try have d0' := d0 rfl)
             clear d0
             have c1 := S3.out.c1
             go_wp2_with fail
             refine (st_ringAt W3 B S R v rs s S3.out (u : Int)).mono ?_; rintro e w4 ⟨k2, t2, m2, a2, n2, q2, er2, rfl, b4, hr2⟩
             have S4 : Hid (StoV w4 B S R v rs s) := S3.out.below b4
             have X4 := X3.below b4 X3.lt
             have B4 := bup B3 (Nat.le_of_eq HX.out.symm) b4
             clear S3 X3 Y3 B3 b4 c1 x1 lx y1 ly
             go_upto_region 6 with fail
             generalize hV : w4.alloc (.cells #[.int .i64 t2, .int .i64 m2, .slice a2 n2 q2] 45) = W5
             obtain ⟨Y5, bn, -⟩ := boxed hV
             have X5 := X4.below bn X4.lt
             have B5 := bup B4 (Nat.le_of_eq HX.out.symm) bn
             obtain ⟨Z, hZ⟩ : ∃ Z, w4.heap.size = Z := ⟨_, rfl⟩
             rw [hZ] at Y5
             rw [hZ]
             clear hV hZ bn X4 B4
             have x1 := X5.cell 1 _ rfl
             have lx := X5.lt
             have y1 := Y5.cell 1 _ rfl
             have ly := Y5.lt
             by_cases hC : er2 = 0 ∧ m2 ≤ xm
             · obtain ⟨hC1, hC2⟩ := hC
               have e := E2.out (by omega) (by
                 rcases hr2 with ⟨_, h0, h1, h2⟩ | ⟨h0, _⟩
                 · rw [show u = ((u : Int)).toNat by omega, ← h2]; exact hC2
                 · omega)
               subst hC1 e
               have e0 : decide (m2 ≤ xm) = true := by simpa using hC2
               go_wp2_with fail
               go_ret
               exact ⟨rfl, by rw [HX.out]; exact B5⟩
             · have e := E3.out HNA.out (fun q => hC (by
                 rcases hr2 with ⟨h0, h1, h2, h3⟩ | ⟨h0, h1⟩
                 · refine ⟨h0, ?_⟩
                   rw [h3, show ((u : Int)).toNat = u by omega]; exact q.2
                 · omega))
               subst e
               have e0 : er2 = 0 → decide (m2 ≤ xm) = false := fun h => by simp; have := fun q => hC ⟨h, q⟩; omega
               have HR2 : er2 = 0 ∨ er2 = 3 := by
                 rcases hr2 with ⟨h0, _⟩ | ⟨h0, _⟩
                 · exact Or.inl h0
                 · exact Or.inr h0
               clear hr2 hC E2 E3
               rcases HR2 with h2 | h2
               · subst h2
                 have e1 := e0 rfl
                 go_wp2_with fail
                 go_ret
                 exact ⟨rfl, by rw [HX.out]; exact B5⟩
               · subst h2
                 go_wp2_with fail
                 go_ret
                 exact ⟨rfl, by rw [HX.out]; exact B5⟩)
/-- The Base. -/
theorem st_base (w0 w : World) (B S R : Nat) (v : Value) (rs : Rs) (s : Sto) (h0 : StoV w0 B S R v rs s) (bw : Below w0.heap.size w0 w) (k : Int) :
    Calls Tryz.prog 31 #[.pointer (some ⟨S, 0, none⟩), .int .i64 k] w fun e w' => ∃ ao n c, e = .returned (.tuple #[snV (tkB s.L k).t (tkB s.L k).m (.slice ao n c), .int .i64 (if k ≠ -1 ∧ isS s.L k = false then 14 else 0)]) ∧ (∀ w'', Below w0.heap.size w0 w'' → RdE w'' (.slice ao n c) (tkB s.L k).E.length (atE (tkB s.L k).E)) ∧ Below w.heap.size w w' := by
  have h := h0.below bw
  have HS : Hid (StoV w B S R v rs s) := h
  obtain ⟨ao, n, c, et, r⟩ := h0.get k
  have HRW : Hid (∀ w', Below w0.heap.size w0 w' → RdE w' (.slice ao n c) (getS s.L k).E.length (atE (getS s.L k).E)) := fun w' b => r.below b
  have HET : Hid (getX rs.L k (.agg #[.int .i64 0, .int .i64 0, .slice none 0 0]) = snV (getS s.L k).t (getS s.L k).m (.slice ao n c)) := et
  have hat0 := h.isAt k
  obtain ⟨er, her⟩ : ∃ e : Int, (if k ≠ -1 ∧ isS s.L k = false then 14 else 0) = e := ⟨_, rfl⟩
  have E0 : Hid (k = -1 → tkB s.L k = noSn ∧ er = 0) := fun hk => ⟨by unfold tkB; rw [if_pos hk], by rw [← her, if_neg (fun q => q.1 hk)]⟩
  have E1 : Hid (k ≠ -1 → isS s.L k = false → tkB s.L k = noSn ∧ er = 14) := fun hk hq => ⟨by unfold tkB getS; rw [if_neg hk, if_neg (by rw [hq]; simp)], by rw [← her, if_pos ⟨hk, hq⟩]⟩
  have E2 : Hid (k ≠ -1 → isS s.L k = true → tkB s.L k = getS s.L k ∧ er = 0) := fun hk hq => ⟨by unfold tkB; rw [if_neg hk], by rw [← her, if_neg (fun q => by rw [hq] at q; cases q.2)]⟩
  rw [her]
  obtain ⟨qb, hqb⟩ : ∃ b, isS s.L k = b := ⟨_, rfl⟩
  rw [hqb] at hat0 E1 E2
  have HAT : Hid (Go.Proofs.YtlpdhglibgnkoaaGreat.isAt rs.L k = qb) := hat0
  clear et r her hqb hat0
  have c1 := h.c1
  go_enter Tryz.func31, Tryz.ntmps31
  go_upto_region 1 with fail
  generalize hW : w.alloc (.cells #[.int .i64 0, .int .i64 0, .slice none 0 0] 45) = W
  obtain ⟨Y0, b0, -⟩ := boxed hW
  have S0 : Hid (StoV W B S R v rs s) := HS.out.below b0
  obtain ⟨H, hH⟩ : ∃ H, w.heap.size = H := ⟨_, rfl⟩
  have HH : Hid (w.heap.size = H) := hH
  rw [hH] at Y0 b0
  rw [hH]
  clear hW hH HS c1 h
  by_cases hk : k = -1
  · obtain ⟨e1, e2⟩ := E0.out hk
    have HE : Hid (tkB s.L k = noSn) := e1
    subst e2 hk
    clear e1 E0 E1 E2 HAT HRW HET
    have d0 := Y0.cell 0 _ rfl
    have f0 := Y0.froz 0
    have d1 := Y0.cell 1 _ rfl
    have f1 := Y0.froz 1
    have d2 := Y0.cell 2 _ rfl
    have f2 := Y0.froz 2
    have lr := Y0.lt
    go_wp2_with fail
    have RB := blk_three (x0 := .int .i64 0) (x1 := .int .i64 0) (x2 := .slice none 0 0) Y0
    have LB := below_three (x0 := .int .i64 0) (x1 := .int .i64 0) (x2 := .slice none 0 0) b0 (show H ≤ H by omega)
    generalize ((W.setCell ⟨H, 0, none⟩ (.int .i64 0)).setCell ⟨H, 1, none⟩ (.int .i64 0)).setCell ⟨H, 2, none⟩ (.slice none 0 0) = W9 at RB LB ⊢
    have h0 := RB.cell 0 _ rfl
    have h1 := RB.cell 1 _ rfl
    have h2 := RB.cell 2 _ rfl
    refine bodyPost_ret (v := .tuple #[snV 0 0 (.slice none 0 0), .int .i64 0]) (by simp [results, Tryz.results31, go_sem, h0, h1, h2]) rfl ⟨none, 0, 0, by rw [HE.out]; rfl, by rw [HE.out]; exact fun _ _ => ⟨none, 0, rfl, Nat.le_refl _, by omega, Or.inl rfl⟩, by rw [HH.out]; exact LB⟩
  · have hkb : (k == -1) = false := by simpa using hk
    have c1 := S0.out.c1
    go_wp2_with fail
    have et := HET.out
    have hat := HAT.out
    refine (get_anyP W B R v rs S0.out.rng k).mono ?_; rintro e w1 ⟨rfl, b1⟩
    have Y1 := Y0.below b1 Y0.lt
    have B1 := bup b0 (Nat.le_of_eq HH.out.symm) b1
    obtain ⟨T0, hT0⟩ : ∃ x, (getS s.L k).t = x := ⟨_, rfl⟩
    obtain ⟨M0, hM0⟩ : ∃ x, (getS s.L k).m = x := ⟨_, rfl⟩
    have HT : Hid ((getS s.L k).t = T0 ∧ (getS s.L k).m = M0) := ⟨hT0, hM0⟩
    rw [hT0, hM0] at et
    rw [et, hat]
    clear S0 Y0 b0 b1 c1 et hat hT0 hM0 HET HAT E0
    cases qb
    · obtain ⟨e1, e2⟩ := E1.out hk rfl
      have HE : Hid (tkB s.L k = noSn) := e1
      subst e2
      clear e1 E1 E2 HRW HT
      go_upto_region 5 with fail
      generalize hV : w1.alloc (.cells #[.int .i64 T0, .int .i64 M0, .slice ao n c] 45) = W2
      obtain ⟨X2, bn, -⟩ := boxed hV
      have Y2 := Y1.below bn Y1.lt
      have B2 := bup B1 (Nat.le_of_eq HH.out.symm) bn
      clear hV X2 bn Y1 B1
      have d0 := Y2.cell 0 _ rfl
      have f0 := Y2.froz 0
      have d1 := Y2.cell 1 _ rfl
      have f1 := Y2.froz 1
      have d2 := Y2.cell 2 _ rfl
      have f2 := Y2.froz 2
      have lr := Y2.lt
      go_wp2_with fail
      have RB := blk_three (x0 := .int .i64 0) (x1 := .int .i64 0) (x2 := .slice none 0 0) Y2
      have LB := below_three (x0 := .int .i64 0) (x1 := .int .i64 0) (x2 := .slice none 0 0) B2 (show H ≤ H by omega)
      generalize ((W2.setCell ⟨H, 0, none⟩ (.int .i64 0)).setCell ⟨H, 1, none⟩ (.int .i64 0)).setCell ⟨H, 2, none⟩ (.slice none 0 0) = W9 at RB LB ⊢
      have h0 := RB.cell 0 _ rfl
      have h1 := RB.cell 1 _ rfl
      have h2 := RB.cell 2 _ rfl
      refine bodyPost_ret (v := .tuple #[snV 0 0 (.slice none 0 0), .int .i64 14]) (by simp [results, Tryz.results31, go_sem, h0, h1, h2]) rfl ⟨none, 0, 0, by rw [HE.out]; rfl, by rw [HE.out]; exact fun _ _ => ⟨none, 0, rfl, Nat.le_refl _, by omega, Or.inl rfl⟩, by rw [HH.out]; exact LB⟩
    · obtain ⟨e1, e2⟩ := E2.out hk rfl
      have HE : Hid (tkB s.L k = getS s.L k) := e1
      subst e2
      clear e1 E1 E2
      go_upto_region 6 with fail
      generalize hV : w1.alloc (.cells #[.int .i64 T0, .int .i64 M0, .slice ao n c] 45) = W2
      obtain ⟨X2, bn, -⟩ := boxed hV
      have Y2 := Y1.below bn Y1.lt
      have B2 := bup B1 (Nat.le_of_eq HH.out.symm) bn
      obtain ⟨V, hV2⟩ : ∃ V, w1.heap.size = V := ⟨_, rfl⟩
      rw [hV2] at X2
      rw [hV2]
      clear hV hV2 bn Y1 B1
      have v0 := X2.cell 0 _ rfl
      have v1 := X2.cell 1 _ rfl
      have v2 := X2.cell 2 _ rfl
      have lv := X2.lt
      have d0 := Y2.cell 0 _ rfl
      have f0 := Y2.froz 0
      have d1 := Y2.cell 1 _ rfl
      have f1 := Y2.froz 1
      have d2 := Y2.cell 2 _ rfl
      have f2 := Y2.froz 2
      have lr := Y2.lt
      go_wp2_with fail
      have RB := blk_three (x0 := .int .i64 T0) (x1 := .int .i64 M0) (x2 := .slice ao n c) Y2
      have LB := below_three (x0 := .int .i64 T0) (x1 := .int .i64 M0) (x2 := .slice ao n c) B2 (show H ≤ H by omega)
      generalize ((W2.setCell ⟨H, 0, none⟩ (.int .i64 T0)).setCell ⟨H, 1, none⟩ (.int .i64 M0)).setCell ⟨H, 2, none⟩ (.slice ao n c) = W9 at RB LB ⊢
      have h0 := RB.cell 0 _ rfl
      have h1 := RB.cell 1 _ rfl
      have h2 := RB.cell 2 _ rfl
      refine bodyPost_ret (v := .tuple #[snV T0 M0 (.slice ao n c), .int .i64 0]) (by simp [results, Tryz.results31, go_sem, h0, h1, h2]) rfl ⟨ao, n, c, by rw [HE.out, HT.out.1, HT.out.2], by rw [HE.out]; exact HRW.out, by rw [HH.out]; exact LB⟩
end Go.Proofs.YtlpdhglibgnkoaaGreat

namespace Go.Proofs.YtlpdhglibgnkoaaGreat
open Go.RowKit
set_option linter.unusedVariables false
set_option maxRecDepth 20000

theorem blk_four {w : World} {b : Nat} {c0 c1 c2 c3 x0 x1 x2 x3 : Value} (h : Blk w b [c0, c1, c2, c3]) : Blk ((((w.setCell ⟨b, 0, none⟩ x0).setCell ⟨b, 1, none⟩ x1).setCell ⟨b, 2, none⟩ x2).setCell ⟨b, 3, none⟩ x3) b [x0, x1, x2, x3] :=
  (((h.set 0 x0 (by simp)).set 1 x1 (by simp)).set 2 x2 (by simp)).set 3 x3 (by simp)
theorem by_three (w : World) (b : Nat) (x0 x1 x2 : Value) : w.grownBy (((w.setCell ⟨b, 0, none⟩ x0).setCell ⟨b, 1, none⟩ x1).setCell ⟨b, 2, none⟩ x2) (some b) :=
  grown_trans (grown_trans (grown_set w b 0 x0) (grown_set _ b 1 x1)) (grown_set _ b 2 x2)
theorem by_four (w : World) (b : Nat) (x0 x1 x2 x3 : Value) : w.grownBy ((((w.setCell ⟨b, 0, none⟩ x0).setCell ⟨b, 1, none⟩ x1).setCell ⟨b, 2, none⟩ x2).setCell ⟨b, 3, none⟩ x3) (some b) :=
  grown_trans (by_three w b x0 x1 x2) (grown_set _ b 3 x3)
theorem by_of {w w' w'' : World} {b : Nat} (h : Below w.heap.size w w') (k : w'.grownBy w'' (some b)) : w.grownBy w'' (some b) := ((below_by h).but _).trans k
/-- Behind such a change the world is above another one, if the block is new to that. -/
theorem below_of {B : Nat} {w w' w'' : World} {b : Nat} (h : Below B w w') (k : w'.grownBy w'' (some b)) (hB : B ≤ w'.heap.size) (hb : B ≤ b) : Below B w w'' := h.grown k hB (fun j e => by injection e with e; omega)

set_option maxHeartbeats 1000000 in
/-- The first step: the datagram is read. -/
theorem tk_one (w : World) (P PG : Nat) (vb : Value) (l : List Int) (hb : Bytes l) (hl : l.length ≤ 140737488355328) (hp : Blk w P [vb]) (hr : Rd w vb l) (c0 c1 c2 c3 : Value) (hg : Blk w PG [c0, c1, c2, c3]) :
    Calls Tryz.prog 26 (#[] ++ #[.pointer (some ⟨P, 0, none⟩), .pointer (some ⟨PG, 0, none⟩)]) w fun e w' => e = .returned (.int .i64 (rgE l)) ∧ ∃ ao n c, Blk w' PG [.int .i64 (rgG l).t, .int .i64 (rgG l).m, .int .i64 (rgG l).b, .slice ao n c] ∧ OwnR w' w.heap.size (.slice ao n c) (rgL l) ∧ w.grownBy w' (some PG) := by
  have p0 := hp.cell 0 _ rfl
  have HC : Hid (Calls Tryz.prog 27 #[vb] w fun e w' => ∃ u, e = .returned (.tuple #[gmV (rgG l) u, .int .i64 (rgE l)]) ∧ OwnR w' w.heap.size u (rgL l) ∧ Below w.heap.size w w') := gm_read w vb l hb hr hl
  obtain ⟨G, hG⟩ : ∃ G, rgG l = G := ⟨_, rfl⟩
  obtain ⟨E, hE⟩ : ∃ E, rgE l = E := ⟨_, rfl⟩
  obtain ⟨L, hL⟩ : ∃ L, rgL l = L := ⟨_, rfl⟩
  rw [hG, hE, hL] at HC
  rw [hG, hE, hL]
  obtain ⟨g0, g1, g2⟩ := G
  obtain ⟨ao', cap', rfl, _⟩ := hr
  clear hG hE hL hb
  go_enter Tryz.func26, Tryz.ntmps26
  go_wp2_with fail
  refine HC.out.mono ?_; rintro e w1 ⟨u, rfl, o1, b1⟩
  have G1 := hg.below b1 hg.lt
  have hPG := hg.lt
  obtain ⟨au, cu, e1⟩ := o1.form
  obtain ⟨nu, hnu⟩ : ∃ x, L.length = x := ⟨_, rfl⟩
  rw [hnu] at e1
  subst e1
  have O1 : Hid (OwnR w1 w.heap.size (.slice au nu cu) L) := o1
  have B1 : Hid (Below w.heap.size w w1) := b1
  have HN : Hid (L.length = nu) := hnu
  clear hnu o1 b1 HC hp p0 hg
  have d0 := G1.cell 0 _ rfl
  have f0 := G1.froz 0
  have d1 := G1.cell 1 _ rfl
  have f1 := G1.froz 1
  have d2 := G1.cell 2 _ rfl
  have f2 := G1.froz 2
  have d3 := G1.cell 3 _ rfl
  have f3 := G1.froz 3
  have lg := G1.lt
  go_wp2_with fail
  have G2 := blk_four (x0 := .int .i64 g0) (x1 := .int .i64 g1) (x2 := .int .i64 g2) (x3 := .slice au nu cu) G1
  have B2 := by_four w1 PG (.int .i64 g0) (.int .i64 g1) (.int .i64 g2) (.slice au nu cu)
  have O2 := OwnR.by_ O1.out B2 (ne_own O1.out hPG)
  generalize (((w1.setCell ⟨PG, 0, none⟩ (.int .i64 g0)).setCell ⟨PG, 1, none⟩ (.int .i64 g1)).setCell ⟨PG, 2, none⟩ (.int .i64 g2)).setCell ⟨PG, 3, none⟩ (.slice au nu cu) = W2 at G2 B2 O2 ⊢
  go_ret
  exact ⟨rfl, au, nu, cu, G2, O2, by_of B1.out B2⟩
/-- The second: its tick. -/
theorem tk_two (w : World) (B S R : Nat) (v : Value) (rs : Rs) (s : Sto) (h : StoV w B S R v rs s) (P PG : Nat) (hp : Blk w P [.pointer (some ⟨S, 0, none⟩)]) (t : Int) (c1 c2 c3 : Value) (hg : Blk w PG [.int .i64 t, c1, c2, c3]) :
    Calls Tryz.prog 28 (#[] ++ #[.pointer (some ⟨P, 0, none⟩), .pointer (some ⟨PG, 0, none⟩)]) w fun e w' => e = .returned (.int .i64 (tickE s.M s.L t)) ∧ Below w.heap.size w w' := by
  have p0 := hp.cell 0 _ rfl
  have g0 := hg.cell 0 _ rfl
  go_enter Tryz.func28, Tryz.ntmps28
  go_wp2_with fail
  refine (st_tick w B S R v rs s h t).mono ?_; rintro e w1 ⟨rfl, b1⟩
  go_wp2_with fail
  go_ret
  exact ⟨rfl, b1⟩
set_option maxHeartbeats 1000000 in
/-- The third: the snapshot of its Base. -/
theorem tk_three (w0 w : World) (B S R : Nat) (v : Value) (rs : Rs) (s : Sto) (h0 : StoV w0 B S R v rs s) (bw : Below w0.heap.size w0 w) (P PG PB : Nat) (hp : Blk w P [.pointer (some ⟨S, 0, none⟩)]) (k : Int) (c0 c1 c3 : Value) (hg : Blk w PG [c0, c1, .int .i64 k, c3])
    (b0 b1 b2 : Value) (hb : Blk w PB [b0, b1, b2]) (hPB : w0.heap.size ≤ PB) :
    Calls Tryz.prog 30 (#[] ++ #[.pointer (some ⟨P, 0, none⟩), .pointer (some ⟨PG, 0, none⟩), .pointer (some ⟨PB, 0, none⟩)]) w fun e w' => e = .returned (.int .i64 (if k ≠ -1 ∧ isS s.L k = false then 14 else 0)) ∧ ∃ ao n c, Blk w' PB [.int .i64 (tkB s.L k).t, .int .i64 (tkB s.L k).m, .slice ao n c] ∧ (∀ w'', Below w0.heap.size w0 w'' → RdE w'' (.slice ao n c) (tkB s.L k).E.length (atE (tkB s.L k).E)) ∧ w.grownBy w' (some PB) := by
  have p0 := hp.cell 0 _ rfl
  have g2 := hg.cell 2 _ rfl
  have HC : Hid (Calls Tryz.prog 31 #[.pointer (some ⟨S, 0, none⟩), .int .i64 k] w fun e w' => ∃ ao n c, e = .returned (.tuple #[snV (tkB s.L k).t (tkB s.L k).m (.slice ao n c), .int .i64 (if k ≠ -1 ∧ isS s.L k = false then 14 else 0)]) ∧ (∀ w'', Below w0.heap.size w0 w'' → RdE w'' (.slice ao n c) (tkB s.L k).E.length (atE (tkB s.L k).E)) ∧ Below w.heap.size w w') := st_base w0 w B S R v rs s h0 bw k
  obtain ⟨T, hT⟩ : ∃ T, tkB s.L k = T := ⟨_, rfl⟩
  obtain ⟨er, her⟩ : ∃ e : Int, (if k ≠ -1 ∧ isS s.L k = false then 14 else 0) = e := ⟨_, rfl⟩
  rw [hT, her] at HC
  rw [hT, her]
  obtain ⟨tt, tm, tE⟩ := T
  clear hT her
  go_enter Tryz.func30, Tryz.ntmps30
  go_wp2_with fail
  refine HC.out.mono ?_; rintro e w1 ⟨ao, n, c, rfl, r1, b1⟩
  have T1 := hb.below b1 hb.lt
  have B1 : Hid (Below w.heap.size w w1) := b1
  have RW : Hid (∀ w'', Below w0.heap.size w0 w'' → RdE w'' (.slice ao n c) tE.length (atE tE)) := r1
  clear b1 r1 HC hp p0 hg g2 hb
  have d0 := T1.cell 0 _ rfl
  have f0 := T1.froz 0
  have d1 := T1.cell 1 _ rfl
  have f1 := T1.froz 1
  have d2 := T1.cell 2 _ rfl
  have f2 := T1.froz 2
  have lg := T1.lt
  go_wp2_with fail
  have G2 := blk_three (x0 := .int .i64 tt) (x1 := .int .i64 tm) (x2 := .slice ao n c) T1
  have B2 := by_three w1 PB (.int .i64 tt) (.int .i64 tm) (.slice ao n c)
  generalize ((w1.setCell ⟨PB, 0, none⟩ (.int .i64 tt)).setCell ⟨PB, 1, none⟩ (.int .i64 tm)).setCell ⟨PB, 2, none⟩ (.slice ao n c) = W2 at G2 B2 ⊢
  go_ret
  exact ⟨rfl, ao, n, c, G2, RW.out, by_of B1.out B2⟩
set_option maxHeartbeats 1000000 in
/-- The fourth: the snapshot that is told. -/
theorem tk_four (w : World) (PB PG PT : Nat) (t m : Int) (aa : Option Addr) (na ca ka : Nat) (Aa : Nat → En) (hb : Blk w PB [.int .i64 t, .int .i64 m, .slice aa na ca]) (hra : RdE w (.slice aa na ca) ka Aa)
    (g : Gm) (ok : g.ok) (ag : Option Addr) (ng cg kg : Nat) (A : Nat → Rc) (hA : ∀ i, i < kg → (A i).ok) (hg : Blk w PG [.int .i64 g.t, .int .i64 g.m, .int .i64 g.b, .slice ag ng cg]) (hrg : RdR w (.slice ag ng cg) kg A)
    (t0 t1 t2 : Value) (ht : Blk w PT [t0, t1, t2]) :
    Calls Tryz.prog 32 (#[] ++ #[.pointer (some ⟨PB, 0, none⟩), .pointer (some ⟨PG, 0, none⟩), .pointer (some ⟨PT, 0, none⟩)]) w fun e w' => e = .returned (.int .i64 (aplE t m (preE Aa ka) g A kg)) ∧ ∃ ao n c, Blk w' PT [.int .i64 (apT t m (preE Aa ka) g A kg), .int .i64 (apM t m (preE Aa ka) g A kg), .slice ao n c] ∧ OwnE w' w.heap.size (.slice ao n c) (aplL t m (preE Aa ka) g A kg) ∧ w.grownBy w' (some PT) := by
  have HC : Hid (Calls Tryz.prog 33 #[snV t m (.slice aa na ca), gmV g (.slice ag ng cg)] w fun e w' => ∃ u, e = .returned (.tuple #[snV (apT t m (preE Aa ka) g A kg) (apM t m (preE Aa ka) g A kg) u, .int .i64 (aplE t m (preE Aa ka) g A kg)]) ∧ OwnE w' w.heap.size u (aplL t m (preE Aa ka) g A kg) ∧ Below w.heap.size w w') := dl_apply w t m _ ka Aa hra g ok _ kg A hA hrg
  obtain ⟨E, hE⟩ : ∃ E, aplE t m (preE Aa ka) g A kg = E := ⟨_, rfl⟩
  obtain ⟨RT, hT⟩ : ∃ E, apT t m (preE Aa ka) g A kg = E := ⟨_, rfl⟩
  obtain ⟨RM, hM⟩ : ∃ E, apM t m (preE Aa ka) g A kg = E := ⟨_, rfl⟩
  obtain ⟨TL, hL⟩ : ∃ E, aplL t m (preE Aa ka) g A kg = E := ⟨_, rfl⟩
  rw [hE, hT, hM, hL] at HC
  rw [hE, hT, hM, hL]
  obtain ⟨g0, g1, g2⟩ := g
  have p0 := hb.cell 0 _ rfl
  have p1 := hb.cell 1 _ rfl
  have p2 := hb.cell 2 _ rfl
  have q0 := hg.cell 0 _ rfl
  have q1 := hg.cell 1 _ rfl
  have q2 := hg.cell 2 _ rfl
  have q3 := hg.cell 3 _ rfl
  have lb := hb.lt
  have lg := hg.lt
  have hPT := ht.lt
  clear hE hT hM hL hra hrg hA ok
  go_enter Tryz.func32, Tryz.ntmps32
  go_wp2_with fail
  refine HC.out.mono ?_; rintro e w1 ⟨u, rfl, o1, b1⟩
  have T1 := ht.below b1 ht.lt
  obtain ⟨au, cu, rfl⟩ := o1.form
  obtain ⟨nu, hnu⟩ : ∃ x, TL.length = x := ⟨_, rfl⟩
  rw [hnu] at o1 ⊢
  have B1 : Hid (Below w.heap.size w w1) := b1
  have O1 : Hid (OwnE w1 w.heap.size (.slice au nu cu) TL) := o1
  clear hnu b1 o1 HC p0 p1 p2 q0 q1 q2 q3 lb lg hb hg ht
  have d0 := T1.cell 0 _ rfl
  have f0 := T1.froz 0
  have d1 := T1.cell 1 _ rfl
  have f1 := T1.froz 1
  have d2 := T1.cell 2 _ rfl
  have f2 := T1.froz 2
  have lt := T1.lt
  go_wp2_with fail
  have G2 := blk_three (x0 := .int .i64 RT) (x1 := .int .i64 RM) (x2 := .slice au nu cu) T1
  have B2 := by_three w1 PT (.int .i64 RT) (.int .i64 RM) (.slice au nu cu)
  have O2 := ownE_three (b := PT) (x0 := .int .i64 RT) (x1 := .int .i64 RM) (x2 := .slice au nu cu) O1.out (fun e => by have := (O1.out.lt PT e.symm).1; omega)
  generalize ((w1.setCell ⟨PT, 0, none⟩ (.int .i64 RT)).setCell ⟨PT, 1, none⟩ (.int .i64 RM)).setCell ⟨PT, 2, none⟩ (.slice au nu cu) = W2 at G2 B2 O2 ⊢
  go_ret
  exact ⟨rfl, au, nu, cu, G2, O2, by_of B1.out B2⟩
/-- The fifth: its time. -/
theorem tk_five (w : World) (B S R : Nat) (v : Value) (rs : Rs) (s : Sto) (h : StoV w B S R v rs s) (hL : s.L.length ≤ 64) (P PT : Nat) (hp : Blk w P [.pointer (some ⟨S, 0, none⟩)]) (x : Sn) (ao : Option Addr) (n c : Nat) (ht : Blk w PT [.int .i64 x.t, .int .i64 x.m, .slice ao n c]) :
    Calls Tryz.prog 34 (#[] ++ #[.pointer (some ⟨P, 0, none⟩), .pointer (some ⟨PT, 0, none⟩)]) w fun e w' => e = .returned (.int .i64 (if lateB s.L x = true then 16 else 0)) ∧ Below w.heap.size w w' := by
  have p0 := hp.cell 0 _ rfl
  have t0 := ht.cell 0 _ rfl
  have t1 := ht.cell 1 _ rfl
  have t2 := ht.cell 2 _ rfl
  have lt := ht.lt
  have HC : Hid (Calls Tryz.prog 35 #[.pointer (some ⟨S, 0, none⟩), snV x.t x.m (.slice ao n c)] w fun e w' => e = .returned (.int .i64 (if lateB s.L x = true then 16 else 0)) ∧ Below w.heap.size w w') := st_time w B S R v rs s h hL x ao n c
  obtain ⟨er, her⟩ : ∃ e : Int, (if lateB s.L x = true then 16 else 0) = e := ⟨_, rfl⟩
  rw [her] at HC
  rw [her]
  clear her h
  go_enter Tryz.func34, Tryz.ntmps34
  go_wp2_with fail
  refine HC.out.mono ?_; rintro e w1 ⟨rfl, b1⟩
  go_wp2_with fail
  go_ret
  exact ⟨rfl, b1⟩
end Go.Proofs.YtlpdhglibgnkoaaGreat
