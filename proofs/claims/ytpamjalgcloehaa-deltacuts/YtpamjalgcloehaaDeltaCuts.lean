/-
  Proved: a snapshot without one of its entities is told by a Remove alone, and back by a Put, if that was not elsewhere at once (the law DeltaCuts answers true at every input).
  Conditions: none.
-/
import Derived.Test.YtpamjalgcloehaaRows
import Derived.Test.YtpamjalgcloehaaP21
namespace Go.Proofs.Ytpamjalgcloehaa
open Go.ChangeShapes Go.WideShapes Go.ChangeAt Go.RowKit
set_option linter.unusedVariables false

namespace DeltaCutsL
theorem own : ownKnob Try.prog.godebug = none := by kernel_rfl

attribute [local go_sem ↓] eqR_run eqE_run eq6_run
attribute [local go_sem] eq3_run
set_option maxRecDepth 20000 in
set_option maxHeartbeats 8000000 in
theorem walk (w : World) (t0 m0 : Int) (u0 : Value) (n0 : Nat) (A0 : Nat → En) (s0 : S64 t0) (s0' : S64 m0) (e0 : ∀ i, i < n0 → (A0 i).ok) (r0 : RdE w u0 n0 A0) (a1 : Int) (v1 : (Lit.int .i64 a1).wf = true) :
    Calls Try.prog 3 #[snV t0 m0 u0, .int .i64 a1] w fun e w' => e = .returned (.bool true) ∧ Below w.heap.size w w' := by
  have R0 : Hid (RdE w u0 n0 A0) := r0
  have E0 : Hid (∀ i, i < n0 → (A0 i).ok) := e0
  obtain ⟨o0, k0, q0, hc0, hm0, _⟩ := r0
  subst q0
  clear v1 e0 s0 s0'
  have CH : Hid (∀ w', RdE w' (.slice o0 n0 k0) n0 A0 → Calls Try.prog 5 #[snV t0 m0 (.slice o0 n0 k0)] w' fun e w'' => e = .returned (.int .i64 (snE t0 m0 (preE A0 n0))) ∧ Below w'.heap.size w' w'') := fun w' h => sn_check w' t0 m0 _ n0 A0 h
  have PL : Hid ((preE A0 n0).length = n0) := preE_len A0 n0
  have SN64 : Hid (snE t0 m0 (preE A0 n0) = 0 → n0 ≤ 64 ∧ 0 ≤ t0) := fun h => by have := sn_ok h; rw [PL.out] at this; exact ⟨this.2.2.2.1, this.1⟩
  have CT : Hid (snE t0 m0 (preE A0 n0) = 0 → t0 ≤ 4294967293 → ∀ i, i < n0 → dlE t0 m0 (preE A0 n0) (t0 + 1) m0 (cutL (preE A0 n0) i) = 0 ∧ dlG t0 m0 (preE A0 n0) (t0 + 1) m0 (cutL (preE A0 n0) i) = ⟨t0 + 1, m0, t0⟩ ∧ dlL t0 m0 (preE A0 n0) (t0 + 1) m0 (cutL (preE A0 n0) i) = [remR (A0 i)]) := fun h ht i hi => by
    have := cut_told h ht (i := i) (by rw [PL.out]; exact hi)
    rw [preE_at A0 n0 i hi] at this
    exact this
  have CB : Hid (snE t0 m0 (preE A0 n0) = 0 → t0 ≤ 4294967293 → ∀ i, i < n0 → ((A0 i).g ≠ 0 → dlE (t0 + 1) m0 (cutL (preE A0 n0) i) (t0 + 2) m0 (preE A0 n0) = 15) ∧ ((A0 i).g = 0 → dlE (t0 + 1) m0 (cutL (preE A0 n0) i) (t0 + 2) m0 (preE A0 n0) = 0 ∧ dlG (t0 + 1) m0 (cutL (preE A0 n0) i) (t0 + 2) m0 (preE A0 n0) = ⟨t0 + 2, m0, t0 + 1⟩ ∧ dlL (t0 + 1) m0 (cutL (preE A0 n0) i) (t0 + 2) m0 (preE A0 n0) = [putR (A0 i)])) := fun h ht i hi => by
    have := cut_back h ht (i := i) (by rw [PL.out]; exact hi)
    rw [preE_at A0 n0 i hi] at this
    exact this
  obtain ⟨E, hE⟩ : ∃ E, snE t0 m0 (preE A0 n0) = E := ⟨_, rfl⟩
  rw [hE] at CH SN64 CT CB
  clear hE
  go_enter Try.func3, Try.ntmps3
  go_upto_region 1 with fail
  generalize hW : w.alloc (.cells #[.int .i64 t0, .int .i64 m0, .slice o0 n0 k0] 24) = W0
  obtain ⟨a_0, bb, -⟩ := boxed hW
  obtain ⟨H, hH⟩ : ∃ H, w.heap.size = H := ⟨_, rfl⟩
  have HH : Hid (w.heap.size = H) := hH
  have R0_0 : Hid (RdE W0 (.slice o0 n0 k0) n0 A0) := R0.out.below bb
  rw [hH] at a_0 bb
  rw [hH]
  have Q_0 := bb
  clear hW hH bb R0
  have ca0 := a_0.cell 0 _ rfl
  have ca1 := a_0.cell 1 _ rfl
  have ca2 := a_0.cell 2 _ rfl
  have la := a_0.lt
  go_wp2_with fail
  generalize hW : W0.alloc (.cells #[.int .i64 t0, .int .i64 m0, .slice o0 n0 k0] 24) = W1
  obtain ⟨s_1, bb, -⟩ := boxed hW
  obtain ⟨bs, hb⟩ : ∃ x, W0.heap.size = x := ⟨_, rfl⟩
  rw [hb] at s_1  ⊢
  clear hW
  have a_1 := a_0.below bb a_0.lt
  have R0_1 : Hid (RdE W1 (.slice o0 n0 k0) n0 A0) := R0_0.out.below bb
  have Q_1 := bup Q_0 (Nat.le_of_eq HH.out.symm) bb
  clear ca0 ca1 ca2 la
  clear a_0 R0_0 Q_0 bb hb
  obtain ⟨q, hq⟩ : ∃ q : Bool, q = true ↔ ∃ k, k < 1 ∧ 100 < (fun _ : Nat => n0) k := by
    by_cases h : ∃ k, k < 1 ∧ 100 < (fun _ : Nat => n0) k
    · exact ⟨true, fun _ => h, fun _ => rfl⟩
    · exact ⟨false, fun h' => (by cases h'), fun h' => absurd h' h⟩
  have HGR : Hid (Calls Try.prog 4 #[.slice (some ⟨bs, 0, none⟩) 1 1] W1 fun e w' => e = .returned (.bool q) ∧ Below W1.heap.size W1 w') := dl_great W1 bs 1 1 (by omega) (by omega) (fun _ => t0) (fun _ => m0) (fun _ => o0) (fun _ => n0) (fun _ => k0) q hq (fun k hk => by
    match k, hk with
    | 0, _ => exact ⟨s_1.cell 0 _ rfl, s_1.cell 1 _ rfl, s_1.cell 2 _ rfl⟩)
  clear hq
  refine (HGR.out).mono ?_; rintro e w2 ⟨rfl, bb⟩
  clear s_1
  have a_2 := a_1.below bb a_1.lt
  have R0_2 : Hid (RdE w2 (.slice o0 n0 k0) n0 A0) := R0_1.out.below bb
  have Q_2 := bup Q_1 (Nat.le_of_eq HH.out.symm) bb
  clear a_1 R0_1 Q_1 bb
  clear HGR
  cases q
  case true =>
    clear CH CT CB
    go_wp2_with fail
    refine (dl_alive _).mono ?_; rintro e w9 ⟨rfl, b9⟩
    go_wp2_with fail
    go_ret
    exact ⟨rfl, by rw [HH.out]; exact bup Q_2 (Nat.le_of_eq HH.out.symm) b9⟩
  have ca0 := a_2.cell 0 _ rfl
  have ca1 := a_2.cell 1 _ rfl
  have ca2 := a_2.cell 2 _ rfl
  have la := a_2.lt
  go_wp2_with fail
  refine (CH.out _ R0_2.out).mono ?_; rintro e w3 ⟨rfl, bb⟩
  have a_3 := a_2.below bb a_2.lt
  have R0_3 : Hid (RdE w3 (.slice o0 n0 k0) n0 A0) := R0_2.out.below bb
  have Q_3 := bup Q_2 (Nat.le_of_eq HH.out.symm) bb
  clear ca0 ca1 ca2 la
  clear a_2 R0_2 Q_2 bb
  clear CH
  have ca0 := a_3.cell 0 _ rfl
  have ca1 := a_3.cell 1 _ rfl
  have ca2 := a_3.cell 2 _ rfl
  have la := a_3.lt
  by_cases hz : E = 0
  case neg =>
    have hq : (E == 0) = false := by simp [hz]
    clear CT CB SN64
    go_wp2_with fail
    refine (dl_alive _).mono ?_; rintro e w9 ⟨rfl, b9⟩
    go_wp2_with fail
    go_ret
    exact ⟨rfl, by rw [HH.out]; exact bup Q_3 (Nat.le_of_eq HH.out.symm) b9⟩
  obtain ⟨h64, ht0⟩ := SN64.out hz
  by_cases hn0 : n0 = 0
  case pos =>
    subst hz
    subst hn0
    clear CT CB SN64
    go_wp2_with fail
    refine (dl_alive _).mono ?_; rintro e w9 ⟨rfl, b9⟩
    go_wp2_with fail
    go_ret
    exact ⟨rfl, by rw [HH.out]; exact bup Q_3 (Nat.le_of_eq HH.out.symm) b9⟩
  have dn0 : decide ((n0 : Int) = 0) = false := by simp; omega
  have dn0' : ((n0 : Int) == 0) = false := by simp; omega
  by_cases ht : t0 ≤ 4294967293
  case neg =>
    have dt : decide (4294967293 < t0) = true := by simp; omega
    subst hz
    clear CT CB SN64
    go_wp2_with fail
    refine (dl_alive _).mono ?_; rintro e w9 ⟨rfl, b9⟩
    go_wp2_with fail
    go_ret
    exact ⟨rfl, by rw [HH.out]; exact bup Q_3 (Nat.le_of_eq HH.out.symm) b9⟩
  have dt : decide (4294967293 < t0) = false := by simp; omega
  obtain ⟨i, hi, hie⟩ : ∃ i : Nat, i < n0 ∧ (a1 % 18446744073709551616) % (n0 : Int) = (i : Int) := by
    refine ⟨((a1 % 18446744073709551616) % (n0 : Int)).toNat, ?_, ?_⟩
    · have := Int.emod_nonneg (a1 % 18446744073709551616) (b := (n0 : Int)) (by omega)
      have := Int.emod_lt_of_pos (a1 % 18446744073709551616) (b := (n0 : Int)) (by omega)
      omega
    · have := Int.emod_nonneg (a1 % 18446744073709551616) (b := (n0 : Int)) (by omega)
      omega
  have CTi := CT.out hz ht i hi
  have CBi := CB.out hz ht i hi
  have CT1 : Hid _ := CTi
  have CB1 : Hid _ := CBi
  subst hz
  clear CT CB SN64 CTi CBi
  have u1 : IntKind.u64.wrap a1 = a1 % 18446744073709551616 := IntKind.wrap_u64 a1
  have u2 : IntKind.u64.wrap (n0 : Int) = (n0 : Int) := by rw [IntKind.wrap_u64]; omega
  have u3 : Int.tmod (a1 % 18446744073709551616) (n0 : Int) = (i : Int) := by rw [Int.tmod_eq_emod_of_nonneg (by omega)]; exact hie
  have u4 : IntKind.u64.wrap (i : Int) = (i : Int) := by rw [IntKind.wrap_u64]; omega
  have u5 : IntKind.i64.wrap (i : Int) = (i : Int) := by rw [IntKind.wrap_i64]; omega
  have u6 : ¬ ((n0 : Int) = 0) := by omega
  clear hie
  obtain ⟨b0, of0, rfl, hcells⟩ : ∃ b o, o0 = some ⟨b, o, none⟩ ∧ ∀ w', RdE w' (.slice o0 n0 k0) n0 A0 → ∀ j u, (ents (preE A0 n0))[j]? = some u → w'.cell? ⟨b, o + j, none⟩ = some u := by
    obtain ⟨ao, cap, e, _, _, h⟩ := R0_3.out
    injection e with e1 _ _
    subst e1
    rcases h with h | ⟨b, o, rfl, _⟩
    · omega
    · refine ⟨b, o, rfl, fun w' hw' => ?_⟩
      obtain ⟨ao2, cap2, e, _, _, h⟩ := hw'
      injection e with e1 _ _
      subst e1
      rcases h with h | ⟨b2, o2, e, h⟩
      · omega
      · injection e with e; injection e with e1 e2 _; subst e1; subst e2
        exact ents_rd h
  have HCE : Hid _ := hcells
  clear hcells
  obtain ⟨AD, hAD⟩ : ∃ AD : Addr, (if k0 = i + 1 then some (⟨b0, of0, none⟩ : Addr) else some ⟨b0, of0 + (i + 1) * 9, none⟩) = some AD := by by_cases e : k0 = i + 1 <;> simp [e]
  have htl : ((preE A0 n0).take i).length = i := by rw [List.length_take, PL.out]; omega
  have hdl : ((preE A0 n0).drop (i + 1)).length = n0 - (i + 1) := by rw [List.length_drop, PL.out]
  have HT : Hid (∀ w', RdE w' (.slice (some ⟨b0, of0, none⟩) n0 k0) n0 A0 → ∀ j u, (ents ((preE A0 n0).take i))[j]? = some u → w'.cell? ((⟨b0, of0, none⟩ : Addr).add j) = some u) := fun w' h j u hu => by
    rw [Addr.add_lit]; exact HCE.out w' h j u (ents_take _ _ _ _ hu)
  have HD : Hid (∀ w', RdE w' (.slice (some ⟨b0, of0, none⟩) n0 k0) n0 A0 → ∀ j u, (ents ((preE A0 n0).drop (i + 1)))[j]? = some u → w'.cell? (AD.add j) = some u) := fun w' h j u hu => by
    have hj : j < (n0 - (i + 1)) * 9 := by have := (List.getElem?_eq_some_iff.1 hu).1; rwa [ents_len, hdl] at this
    rw [if_neg (by omega)] at hAD
    injection hAD with hAD; subst hAD
    rw [Addr.add_lit, Nat.add_assoc]
    exact HCE.out w' h _ u (ents_drop _ _ _ (by rw [PL.out]; omega) _ hu)
  have HTL : Hid _ := htl
  have HDL : Hid _ := hdl
  clear htl hdl HCE
  have hik : i ≤ k0 := by omega
  have hik1 : i + 1 ≤ k0 := by omega
  have hin1 : i + 1 ≤ n0 := by omega
  have v1 : IntKind.i64.wrap (t0 + 1) = t0 + 1 := by rw [IntKind.wrap_i64]; omega
  have v2 : IntKind.i64.wrap ((i : Int) + 1) = (i : Int) + 1 := by rw [IntKind.wrap_i64]; omega
  have v3 : ((i : Int) + 1).toNat = i + 1 := by omega
  have v4 : (0 : Int) ≤ (i : Int) + 1 := by omega
  have v5 : (i : Int) + 1 ≤ (n0 : Int) := by omega
  have v6 : (i : Int) ≤ (k0 : Int) := by omega
  go_upto_region 4 with fail
  obtain ⟨N3, hN3⟩ : ∃ x, w3.heap.size = x := ⟨_, rfl⟩
  have HN3 : Hid (w3.heap.size = N3) := hN3
  go_cut [6] (fun p wx => ∃ bb v, p = .pointer (some ⟨bb, 0, none⟩) ∧ Blk wx bb [.int .i64 (t0 + 1), .int .i64 m0, v] ∧ OwnE wx N3 v (cutL (preE A0 n0) i) ∧ Below N3 w3 wx)
  case first =>
    have hHN : H < N3 := by rw [← hN3]; exact la
    have K1 : Blk ((w3.alloc (.cells #[.int .i64 0, .int .i64 0, .slice none 0 0] 24)).alloc (.cells #[] 40)).drew N3 [.int .i64 0, .int .i64 0, .slice none 0 0] := ((Blk.new w3 #[.int .i64 0, .int .i64 0, .slice none 0 0] 24 hN3.symm).alloc _).drew
    have K2 : Blk ((w3.alloc (.cells #[] 40)).alloc (.cells #[.int .i64 0, .int .i64 0, .slice none 0 0] 24)).drew (N3 + 1) [.int .i64 0, .int .i64 0, .slice none 0 0] := (Blk.new (w3.alloc (.cells #[] 40)) #[.int .i64 0, .int .i64 0, .slice none 0 0] 24 (by simp [hN3])).drew
    have O1 : OwnE ((w3.alloc (.cells #[.int .i64 0, .int .i64 0, .slice none 0 0] 24)).alloc (.cells #[] 40)) N3 (.slice (some ⟨N3 + 1, 0, none⟩) 0 0) [] := by
      have h := ownE_new (w3.alloc (.cells #[.int .i64 0, .int .i64 0, .slice none 0 0] 24)) N3 (by simp [hN3])
      have e : (w3.alloc (.cells #[.int .i64 0, .int .i64 0, .slice none 0 0] 24)).heap.size = N3 + 1 := by simp [hN3]
      rw [e] at h
      exact h
    have O3 : OwnE (w3.alloc (.cells #[] 40)) N3 (.slice (some ⟨N3, 0, none⟩) 0 0) [] := by
      have h := ownE_new w3 N3 (by omega)
      rw [hN3] at h
      exact h
    have O2 : OwnE ((w3.alloc (.cells #[] 40)).alloc (.cells #[.int .i64 0, .int .i64 0, .slice none 0 0] 24)) N3 (.slice (some ⟨N3, 0, none⟩) 0 0) [] := O3.below ((Below.refl _ _).alloc (Nat.le_refl _) _)
    have ne1 : some N3 ≠ (Value.slice (some ⟨N3 + 1, 0, none⟩) 0 0).ownBlock := by simp [Value.ownBlock]
    have ne2 : some (N3 + 1) ≠ (Value.slice (some ⟨N3, 0, none⟩) 0 0).ownBlock := by simp [Value.ownBlock]
    have P1 : Below N3 w3 ((w3.alloc (.cells #[.int .i64 0, .int .i64 0, .slice none 0 0] 24)).alloc (.cells #[] 40)).drew := (((Below.refl N3 w3).alloc (by omega) _).alloc (by simp; omega) _).drew
    have P2 : Below N3 w3 ((w3.alloc (.cells #[] 40)).alloc (.cells #[.int .i64 0, .int .i64 0, .slice none 0 0] 24)).drew := (((Below.refl N3 w3).alloc (by omega) _).alloc (by simp; omega) _).drew
    have P3 : Below N3 w3 (w3.alloc (.cells #[] 40)).drew := ((Below.refl N3 w3).alloc (by omega) _).drew
    have RB : Hid (∀ w', Below N3 w3 w' → RdE w' (.slice (some ⟨b0, of0, none⟩) n0 k0) n0 A0) := fun w' h => R0_3.out.below (by rw [HN3.out]; exact h)
    have AB : Hid (∀ w', Below N3 w3 w' → Blk w' H [.int .i64 t0, .int .i64 m0, .slice (some ⟨b0, of0, none⟩) n0 k0]) := fun w' h => a_3.below (by rw [← HN3.out] at h; exact h) la
    have z1 : N3 ≤ ((w3.alloc (.cells #[.int .i64 0, .int .i64 0, .slice none 0 0] 24)).alloc (.cells #[] 40)).drew.heap.size := by have := P1.size; omega
    have z2 : N3 ≤ ((w3.alloc (.cells #[] 40)).alloc (.cells #[.int .i64 0, .int .i64 0, .slice none 0 0] 24)).drew.heap.size := by have := P2.size; omega
    have z3 : N3 ≤ (w3.alloc (.cells #[] 40)).drew.heap.size := by have := P3.size; omega
    go_region_held_law (fun w' => w'.cell? ⟨H, 0, none⟩ = some (.int .i64 t0) ∧ w'.cell? ⟨H, 1, none⟩ = some (.int .i64 m0) ∧ w'.cell? ⟨H, 2, none⟩ = some (.slice (some ⟨b0, of0, none⟩) n0 k0)) (first | with_reducible exact ⟨far3 x0_7 (by omega), far3 x1_7 (by omega), far3 x2_7 (by omega)⟩ | with_reducible exact ⟨far3 x0_8 (by omega), far3 x1_8 (by omega), far3 x2_8 (by omega)⟩ | with_reducible exact ⟨x0_8, x1_8, x2_8⟩ | with_reducible exact ⟨x0_7, x1_7, x2_7⟩ | with_reducible exact ⟨x0_6, x1_6, x2_6⟩ | with_reducible exact ⟨ca0, ca1, ca2⟩ | go_keep)
      (first
        | (refine appE_step rfl (some 50) rfl _ _ rfl N3 _ [] rfl (by first | exact O1 | exact O2 | exact O3) ⟨b0, of0, none⟩ i k0 ((preE A0 n0).take i) rfl HTL.out (by first | exact HT.out _ (RB.out _ P1) | exact HT.out _ (RB.out _ P2) | exact HT.out _ (RB.out _ P3)) (by rw [HTL.out]; simp; omega) (by first | exact z1 | exact z2 | exact z3) ?_; intro v6 w6 o6 g6; rw [List.nil_append] at o6; (try simp only [Act.put, List.setIfInBounds_toArray, List.set_cons_zero, List.set_cons_succ]); have B6 : Below N3 w3 w6 := (by first | exact P1.trans g6.below | exact P2.trans g6.below | exact P3.trans g6.below); (try have NA6 := Blk.grow K1 ne1 g6); (try have NB6 := Blk.grow K2 ne2 g6); have A6 := AB.out w6 B6; have x0_6 := A6.cell 0 _ rfl; have x1_6 := A6.cell 1 _ rfl; have x2_6 := A6.cell 2 _ rfl; have s6 := B6.size; have o6l := o6.lt)
        | (refine appE_step rfl (some 56) rfl _ _ rfl N3 _ ((preE A0 n0).take i) rfl (by first | exact o6 | exact OwnE.below o6 ((Below.refl _ _).alloc (Nat.le_refl _) _)) AD (n0 - (i + 1)) (k0 - (i + 1)) ((preE A0 n0).drop (i + 1)) rfl HDL.out (by first | exact HD.out _ (RB.out _ B6) | exact HD.out _ (RB.out _ (B6.alloc (by omega) _))) (by rw [HTL.out, HDL.out]; omega) (by first | omega | (simp; omega)) ?_; intro v7 w7 o7 g7; obtain ⟨ao7, cap7, e7⟩ := o7.form; obtain ⟨n7, hn7⟩ : ∃ n7, ((preE A0 n0).take i ++ (preE A0 n0).drop (i + 1)).length = n7 := ⟨_, rfl⟩; rw [hn7] at e7; clear hn7; subst e7; (try simp only [Act.put, List.setIfInBounds_toArray, List.set_cons_zero, List.set_cons_succ]); have B7 : Below N3 w3 w7 := (by first | exact B6.trans g7.below | exact (B6.alloc (by omega) _).trans g7.below); (try have NA7 := Blk.grow NA6.1 NA6.2 g7); (try have NA7 := Blk.grow NB6.1 NB6.2 g7); (try have NA7 := Blk.grow (Blk.new w6 #[.int .i64 0, .int .i64 0, .slice none 0 0] 24 rfl) (fun e => by have := (o6l _ e.symm).2; omega) g7); have A7 := AB.out w7 B7; have x0_7 := A7.cell 0 _ rfl; have x1_7 := A7.cell 1 _ rfl; have x2_7 := A7.cell 2 _ rfl; have s7 := B7.size; have B8 := B7.alloc (by omega) (.cells #[.int .i64 0, .int .i64 0, .slice none 0 0] 24); have A8 := AB.out _ B8; have x0_8 := A8.cell 0 _ rfl; have x1_8 := A8.cell 1 _ rfl; have x2_8 := A8.cell 2 _ rfl; (try have y0 := NA7.1.cell 0 _ rfl); (try have y1 := NA7.1.cell 1 _ rfl); (try have y2 := NA7.1.cell 2 _ rfl); (try have y3 := NA7.1.froz 0); (try have y4 := NA7.1.froz 1); (try have y5 := NA7.1.froz 2)))
    all_goals (go_wp2_with fail)
    all_goals go_meet
    all_goals (first | exact ⟨_, _, rfl, blk_three NA7.1, ownE_three o7 NA7.2, below_three B7 (by omega)⟩ | exact ⟨_, _, rfl, Blk.new w7 _ _ rfl, o7.below ((Below.refl _ _).alloc (Nat.le_refl _) _), B7.alloc (by omega) _⟩)
  case rest =>
    obtain ⟨bb, vb, rfl, XB, own, bel⟩ := hcut
    clear hAD HT HD HTL HDL hik hik1 hin1 v2 v3 v4 v5 v6 u1 u2 u3 u4 u5 u6 ca0 ca1 ca2
    have bel' : Below w3.heap.size w3 wc := by rw [HN3.out]; exact bel
    have A4 : Blk wc H [.int .i64 t0, .int .i64 m0, .slice (some ⟨b0, of0, none⟩) n0 k0] := a_3.below bel' la
    have R4 : Hid (RdE wc (.slice (some ⟨b0, of0, none⟩) n0 k0) n0 A0) := R0_3.out.below bel'
    have Q4 : Below H w wc := bup Q_3 (Nat.le_of_eq HH.out.symm) bel'
    obtain ⟨aoB, capB, eB⟩ := own.form
    obtain ⟨nB, hnB⟩ : ∃ x, (cutL (preE A0 n0) i).length = x := ⟨_, rfl⟩
    have HNB : Hid ((cutL (preE A0 n0) i).length = nB) := hnB
    have RB4 : Hid (RdE wc vb (cutL (preE A0 n0) i).length (atE (cutL (preE A0 n0) i))) := own.atE
    rw [hnB] at eB
    subst eB
    have D1 : Hid (∀ w', RdE w' (.slice (some ⟨b0, of0, none⟩) n0 k0) n0 A0 → RdE w' (.slice aoB nB capB) (cutL (preE A0 n0) i).length (atE (cutL (preE A0 n0) i)) → Calls Try.prog 7 #[snV t0 m0 (.slice (some ⟨b0, of0, none⟩) n0 k0), snV (t0 + 1) m0 (.slice aoB nB capB)] w' fun e w'' => ∃ u, e = .returned (.tuple #[gmV ⟨t0 + 1, m0, t0⟩ u, .int .i64 0]) ∧ OwnR w'' w'.heap.size u [remR (A0 i)] ∧ Below w'.heap.size w' w'') := fun w' h h' => by
      have c := dl_diff w' t0 m0 _ n0 A0 E0.out h (t0 + 1) m0 _ _ _ h'
      rw [pre_atE, CT1.out.1, CT1.out.2.1, CT1.out.2.2] at c
      exact c
    have OKB : ∀ j, j < (cutL (preE A0 n0) i).length → (atE (cutL (preE A0 n0) i) j).ok := fun j hj => by
      have e : atE (cutL (preE A0 n0) i) j = (cutL (preE A0 n0) i)[j] := by simp [atE, List.getD, hj]
      rw [e]
      exact pre_ent E0.out _ (cutL_mem (List.getElem_mem hj))
    have D2 : Hid (∀ w', RdE w' (.slice aoB nB capB) (cutL (preE A0 n0) i).length (atE (cutL (preE A0 n0) i)) → RdE w' (.slice (some ⟨b0, of0, none⟩) n0 k0) n0 A0 → Calls Try.prog 7 #[snV (t0 + 1) m0 (.slice aoB nB capB), snV (t0 + 2) m0 (.slice (some ⟨b0, of0, none⟩) n0 k0)] w' fun e w'' => ∃ u, e = .returned (.tuple #[gmV (dlG (t0 + 1) m0 (cutL (preE A0 n0) i) (t0 + 2) m0 (preE A0 n0)) u, .int .i64 (dlE (t0 + 1) m0 (cutL (preE A0 n0) i) (t0 + 2) m0 (preE A0 n0))]) ∧ OwnR w'' w'.heap.size u (dlL (t0 + 1) m0 (cutL (preE A0 n0) i) (t0 + 2) m0 (preE A0 n0)) ∧ Below w'.heap.size w' w'') := fun w' h h' => by
      have c := dl_diff w' (t0 + 1) m0 _ _ _ OKB h (t0 + 2) m0 _ n0 A0 h'
      rw [pre_atE] at c
      exact c
    have HEC : Hid (∀ w', RdE w' (.slice (some ⟨b0, of0, none⟩) n0 k0) n0 A0 → ∀ j x, (entC (A0 i))[j]? = some x → w'.cell? ⟨b0, of0 + i * 9 + j, none⟩ = some x) := fun w' h j x hx => by
      obtain ⟨b2, o2, e, _, hc⟩ := rdE_at h hi
      injection e with e; injection e with e1 e2 _; subst e1; subst e2
      exact hc j x hx
    clear OKB own hnB bel bel' a_3 R0_3 Q_3 la hN3 HN3 CT1
    obtain ⟨HB, hHB⟩ : ∃ x, bb = x := ⟨_, rfl⟩
    rw [hHB] at XB ⊢
    clear hHB
    have ca0 := A4.cell 0 _ rfl
    have ca1 := A4.cell 1 _ rfl
    have ca2 := A4.cell 2 _ rfl
    have cb0 := XB.cell 0 _ rfl
    have cb1 := XB.cell 1 _ rfl
    have cb2 := XB.cell 2 _ rfl
    go_wp2_with fail
    refine (D1.out _ R4.out RB4.out).mono ?_; rintro e w5 ⟨u5, rfl, o5, b5⟩
    have A5 := A4.below b5 A4.lt
    have X5 := XB.below b5 XB.lt
    have R5 : Hid (RdE w5 (.slice (some ⟨b0, of0, none⟩) n0 k0) n0 A0) := R4.out.below b5
    have RB5 : Hid (RdE w5 (.slice aoB nB capB) (cutL (preE A0 n0) i).length (atE (cutL (preE A0 n0) i))) := RB4.out.below b5
    have Q5 : Below H w w5 := bup Q4 (Nat.le_of_eq HH.out.symm) b5
    obtain ⟨g5, cap5, rfl, _, hg5, hc5, hm5, hcell5⟩ := own_one o5
    have G5 : Hid (∀ j x, (recC (remR (A0 i)))[j]? = some x → w5.cell? ⟨g5, j, none⟩ = some x) := hcell5
    clear A4 XB R4 RB4 Q4 o5 b5 ca0 ca1 ca2 cb0 cb1 cb2 hcell5 D1
    go_upto_region 6 with fail
    generalize hW : w5.alloc (.cells #[.int .i64 (t0 + 1), .int .i64 m0, .int .i64 t0, .slice (some ⟨g5, 0, none⟩) 1 cap5] 32) = W6
    obtain ⟨g_6, b6, -⟩ := boxed hW
    obtain ⟨GB, hGB⟩ : ∃ x, w5.heap.size = x := ⟨_, rfl⟩
    have A6 := A5.below b6 A5.lt
    have X6 := X5.below b6 X5.lt
    have R6 : Hid (RdE W6 (.slice (some ⟨b0, of0, none⟩) n0 k0) n0 A0) := R5.out.below b6
    have RB6 : Hid (RdE W6 (.slice aoB nB capB) (cutL (preE A0 n0) i).length (atE (cutL (preE A0 n0) i))) := RB5.out.below b6
    have Q6 : Below H w W6 := bup Q5 (Nat.le_of_eq HH.out.symm) b6
    have G6 : Hid (∀ j x, (recC (remR (A0 i)))[j]? = some x → W6.cell? ⟨g5, j, none⟩ = some x) := fun j x hx => (b6.cell (p := ⟨g5, j, none⟩) hg5).trans (G5.out j x hx)
    rw [hGB] at g_6 ⊢
    clear A5 X5 R5 RB5 Q5 G5 b6 hW hGB hg5
    have ca2 := A6.cell 2 _ rfl
    have cg3 := g_6.cell 3 _ rfl
    have e0 := HEC.out _ R6.out 0 _ rfl
    rw [Nat.add_zero] at e0
    have r0 := G6.out 0 _ rfl
    have r1 := G6.out 1 _ rfl
    have r2 := G6.out 2 _ rfl
    have r3 := G6.out 3 _ rfl
    have r4 := G6.out 4 _ rfl
    have r5 := G6.out 5 _ rfl
    have r6 := G6.out 6 _ rfl
    have r7 := G6.out 7 _ rfl
    have r8 := G6.out 8 _ rfl
    have hik : i < k0 := by omega
    simp only [remR] at r0 r1 r2 r3 r4 r5 r6 r7 r8
    obtain ⟨di, hdi⟩ : ∃ x, (A0 i).i = x := ⟨_, rfl⟩
    have hrr : recB ⟨2, di, 0, 0, 0, 0, 0, 0, 0⟩ ⟨2, di, 0, 0, 0, 0, 0, 0, 0⟩ = true := recB_same _
    rw [hdi] at e0 r1
    go_wp2_with fail
    go_quiet (fail)
    clear e0 r0 r1 r2 r3 r4 r5 r6 r7 r8 ca2 cg3 hrr hdi
    have A7 := A6.drewN nq
    have X7 := X6.drewN nq
    have R7 : Hid (RdE (W6.drewN nq) (.slice (some ⟨b0, of0, none⟩) n0 k0) n0 A0) := R6.out.drewN nq
    have RB7 : Hid (RdE (W6.drewN nq) (.slice aoB nB capB) (cutL (preE A0 n0) i).length (atE (cutL (preE A0 n0) i))) := RB6.out.drewN nq
    have Q7 := below_drewN Q6 nq
    clear A6 X6 R6 RB6 Q6 G6 g_6
    generalize W6.drewN nq = W7 at A7 X7 R7 RB7 Q7 ⊢
    have ca0 := A7.cell 0 _ rfl
    have ca1 := A7.cell 1 _ rfl
    have ca2 := A7.cell 2 _ rfl
    have v2 : IntKind.i64.wrap (t0 + 2) = t0 + 2 := by rw [IntKind.wrap_i64]; omega
    go_upto_region 10 with fail
    generalize hW : W7.alloc (.cells #[.int .i64 (t0 + 2), .int .i64 m0, .slice (some ⟨b0, of0, none⟩) n0 k0] 24) = W8
    obtain ⟨c_8, b8, -⟩ := boxed hW
    obtain ⟨HC, hHC⟩ : ∃ x, W7.heap.size = x := ⟨_, rfl⟩
    have A8 := A7.below b8 A7.lt
    have X8 := X7.below b8 X7.lt
    have R8 : Hid (RdE W8 (.slice (some ⟨b0, of0, none⟩) n0 k0) n0 A0) := R7.out.below b8
    have RB8 : Hid (RdE W8 (.slice aoB nB capB) (cutL (preE A0 n0) i).length (atE (cutL (preE A0 n0) i))) := RB7.out.below b8
    have Q8 : Below H w W8 := bup Q7 (Nat.le_of_eq HH.out.symm) b8
    rw [hHC] at c_8 ⊢
    clear A7 X7 R7 RB7 Q7 b8 hW hHC ca0 ca1 ca2
    have cb0 := X8.cell 0 _ rfl
    have cb1 := X8.cell 1 _ rfl
    have cb2 := X8.cell 2 _ rfl
    have cc0 := c_8.cell 0 _ rfl
    have cc1 := c_8.cell 1 _ rfl
    have cc2 := c_8.cell 2 _ rfl
    by_cases hg : (A0 i).g = 0
    case neg =>
      have D3 := D2.out
      rw [CB1.out.1 hg] at D3
      have D4 : Hid _ := D3
      clear D3 D2 CB1
      go_wp2_with fail
      refine (D4.out _ RB8.out R8.out).mono ?_; rintro e w9 ⟨u9, rfl, o9, b9⟩
      obtain ⟨ao9, cap9, e9, -⟩ := o9.rdR
      subst e9
      have A9 := A8.below b9 A8.lt
      have R9 : Hid (RdE w9 (.slice (some ⟨b0, of0, none⟩) n0 k0) n0 A0) := R8.out.below b9
      have Q9 : Below H w w9 := bup Q8 (Nat.le_of_eq HH.out.symm) b9
      clear A8 X8 R8 RB8 Q8 b9 o9 c_8 D4 cb0 cb1 cb2 cc0 cc1 cc2
      generalize dlG (t0 + 1) m0 (cutL (preE A0 n0) i) (t0 + 2) m0 (preE A0 n0) = G2
      generalize (dlL (t0 + 1) m0 (cutL (preE A0 n0) i) (t0 + 2) m0 (preE A0 n0)).length = n9
      go_upto_region 11 with fail
      generalize hW : w9.alloc (.cells #[.int .i64 G2.t, .int .i64 G2.m, .int .i64 G2.b, .slice ao9 n9 cap9] 32) = W10
      obtain ⟨-, b10, -⟩ := boxed hW
      have A10 := A9.below b10 A9.lt
      have R10 : Hid (RdE W10 (.slice (some ⟨b0, of0, none⟩) n0 k0) n0 A0) := R9.out.below b10
      have Q10 : Below H w W10 := bup Q9 (Nat.le_of_eq HH.out.symm) b10
      clear A9 R9 Q9 b10 hW
      have ca2 := A10.cell 2 _ rfl
      have e8 := HEC.out _ R10.out 8 _ rfl
      have hgb : ((A0 i).g == 0) = false := by simp [hg]
      have hgc : decide ((A0 i).g = 0) = false := by simp [hg]
      clear HEC E0
      generalize (A0 i).g = gg at e8 hg hgb hgc
      go_wp2_with fail
      refine (dl_alive _).mono ?_; rintro e w11 ⟨rfl, b11⟩
      go_wp2_with fail
      go_ret
      exact ⟨rfl, by rw [HH.out]; exact bup Q10 (Nat.le_of_eq HH.out.symm) b11⟩
    obtain ⟨q1, q2, q3⟩ := CB1.out.2 hg
    have D3 := D2.out
    rw [q1, q2, q3] at D3
    have D4 : Hid _ := D3
    clear D3 D2 CB1 q1 q2 q3
    go_wp2_with fail
    refine (D4.out _ RB8.out R8.out).mono ?_; rintro e w9 ⟨u9, rfl, o9, b9⟩
    have A9 := A8.below b9 A8.lt
    have R9 : Hid (RdE w9 (.slice (some ⟨b0, of0, none⟩) n0 k0) n0 A0) := R8.out.below b9
    have Q9 : Below H w w9 := bup Q8 (Nat.le_of_eq HH.out.symm) b9
    obtain ⟨g9, cap9, rfl, _, hg9, hc9, hm9, hcell9⟩ := own_one o9
    have G9 : Hid (∀ j x, (recC (putR (A0 i)))[j]? = some x → w9.cell? ⟨g9, j, none⟩ = some x) := hcell9
    clear A8 X8 R8 RB8 Q8 o9 b9 c_8 D4 cb0 cb1 cb2 cc0 cc1 cc2 hcell9
    go_upto_region 11 with fail
    generalize hW : w9.alloc (.cells #[.int .i64 (t0 + 2), .int .i64 m0, .int .i64 (t0 + 1), .slice (some ⟨g9, 0, none⟩) 1 cap9] 32) = W10
    obtain ⟨h_10, b10, -⟩ := boxed hW
    obtain ⟨HG, hHG⟩ : ∃ x, w9.heap.size = x := ⟨_, rfl⟩
    have A10 := A9.below b10 A9.lt
    have R10 : Hid (RdE W10 (.slice (some ⟨b0, of0, none⟩) n0 k0) n0 A0) := R9.out.below b10
    have Q10 : Below H w W10 := bup Q9 (Nat.le_of_eq HH.out.symm) b10
    have G10 : Hid (∀ j x, (recC (putR (A0 i)))[j]? = some x → W10.cell? ⟨g9, j, none⟩ = some x) := fun j x hx => (b10.cell (p := ⟨g9, j, none⟩) hg9).trans (G9.out j x hx)
    rw [hHG] at h_10 ⊢
    have hg10 : g9 < W10.heap.size := by have := b10.size; omega
    clear A9 R9 Q9 b10 hW G9 hHG hg9
    have ca2 := A10.cell 2 _ rfl
    have e8 := HEC.out _ R10.out 8 _ rfl
    simp only [hg] at e8
    go_upto_region 13 with fail
    clear ca2 e8 hg E0
    have ca_a := A10.cell 2 _ rfl
    have ch_a := h_10.cell 3 _ rfl
    have g0_a := G10.out 0 _ rfl
    have g2_a := G10.out 2 _ rfl
    have g3_a := G10.out 3 _ rfl
    have g4_a := G10.out 4 _ rfl
    have e1_a := HEC.out _ R10.out 1 _ rfl
    have e2_a := HEC.out _ R10.out 2 _ rfl
    have e3_a := HEC.out _ R10.out 3 _ rfl
    simp only [putR] at g0_a g2_a g3_a g4_a
    have lg9 : g9 < W10.heap.size := hg10
    go_region_held3 (fun w' => w'.cell? ⟨H, 2, none⟩ = some (.slice (some ⟨b0, of0, none⟩) n0 k0) ∧ w'.cell? ⟨HG, 3, none⟩ = some (.slice (some ⟨g9, 0, none⟩) 1 cap9) ∧ w'.cell? ⟨g9, 0, none⟩ = some (.int .i64 0) ∧ w'.cell? ⟨g9, 2, none⟩ = some (.int .i64 (A0 i).p0) ∧ w'.cell? ⟨g9, 3, none⟩ = some (.int .i64 (A0 i).p1) ∧ w'.cell? ⟨g9, 4, none⟩ = some (.int .i64 (A0 i).p2) ∧ w'.cell? ⟨b0, of0 + i * 9 + 1, none⟩ = some (.int .i64 (A0 i).p0) ∧ w'.cell? ⟨b0, of0 + i * 9 + 2, none⟩ = some (.int .i64 (A0 i).p1) ∧ w'.cell? ⟨b0, of0 + i * 9 + 3, none⟩ = some (.int .i64 (A0 i).p2)) (first | with_reducible exact ⟨ca_a, ch_a, g0_a, g2_a, g3_a, g4_a, e1_a, e2_a, e3_a⟩ | with_reducible exact ⟨ca_b, ch_b, g0_b, g2_b, g3_b, g4_b, e1_b, e2_b, e3_b⟩ | go_keep)
      (first | (go_at_call 6; (with_reducible refine (dl_alive _).mono ?_); rintro e w11 ⟨rfl, b11⟩; have A11 := A10.drew.below b11 A10.lt; have h_11 := h_10.drew.below b11 h_10.lt; have R11 : Hid (RdE w11 (.slice (some ⟨b0, of0, none⟩) n0 k0) n0 A0) := (RdE.drewN R10.out 1).below b11; have G11 : Hid (∀ j x, (recC (putR (A0 i)))[j]? = some x → w11.cell? ⟨g9, j, none⟩ = some x) := fun j x hx => (b11.cell (p := ⟨g9, j, none⟩) lg9).trans (G10.out j x hx); have Q11 : Below H w w11 := bup Q10.drew (Nat.le_of_eq HH.out.symm) b11; have ca_b := A11.cell 2 _ rfl; have ch_b := h_11.cell 3 _ rfl; have g0_b := G11.out 0 _ rfl; have g2_b := G11.out 2 _ rfl; have g3_b := G11.out 3 _ rfl; have g4_b := G11.out 4 _ rfl; have e1_b := HEC.out _ R11.out 1 _ rfl; have e2_b := HEC.out _ R11.out 2 _ rfl; have e3_b := HEC.out _ R11.out 3 _ rfl; simp only [putR] at g0_b g2_b g3_b g4_b))
    go_wp2_with fail
    go_ret
    exact ⟨rfl, by rw [HH.out]; exact Q11⟩

set_option maxRecDepth 100000 in
theorem lifted (os : Os) (started : os.Started) (H : Type) (enc : TypeId × Value → H) :
    ReturnsInHanded {} Try.checked os 3 .any (Rows.deltaCutsSpec.pre6 enc Try.prog Try.f3 Rows.deltaCutsRow.domain false) (Rows.deltaCutsSpec.post enc Try.prog Try.f3 false true false false) := by
  refine returnsInHanded_of_change (C := Try.checked) own started (by kernel_rfl) Try.func3
    (ChangeSpec.witness6 (enc := enc) (C := Try.checked) false ⟨#[], #[.agg #[.int .i64 0, .int .i64 0, .slice none 0 0], .int .i64 0], []⟩ 8 (by kernel_rfl) (by kernel_rfl) (by kernel_rfl) (by kernel_rfl)) ?_
  intro W base args ds gs before hval0 hW hcnd _
  have hval : ∀ (j : Nat) t v, Try.f3.params[j]? = some t → args[j]? = some v → Value.okWide Try.prog W .any base t v := hval0
  have hW' := hW
  obtain ⟨p, q, hA0, hV, rfl, hfz, hnd⟩ := hW
  have hA : DataW.TrodAll enc Try.prog W 0 (fun _ => true) true Try.f3.params.toList args.toList ds p := hA0
  rw [Try.params3] at hA hval
  obtain ⟨v0, vs0, d0, ds0, p0, q0, hargs, rfl, rfl, h0, r0⟩ := trodAll_cons hA
  obtain ⟨v1, vs1, d1, ds1, p1, q1, rfl, rfl, rfl, h1, r1⟩ := trodAll_cons r0
  obtain ⟨rfl, rfl, rfl⟩ := trodAll_nil r1
  obtain rfl : args = #[v0, v1] := by cases args; simp_all
  obtain ⟨rfl, rfl⟩ := trodVars_none hV
  have hlt := hW'.lt
  have k0 := h0
  obtain ⟨t0, m0, u0, n0, A0, e0, st0, sm0, b0, rd0⟩ := open_snap (hval 0 24 v0 rfl rfl) h0
  subst e0
  have k1 := h1
  obtain ⟨a1, rfl, rfl, rfl, w1⟩ := open_int Try.underlying3 (hval 1 3 v1 rfl rfl) h1
  clear hA0 hval0
  refine (walk W t0 m0 u0 n0 A0 st0 sm0 b0 rd0 a1 w1).mono fun e W' ⟨he, hg⟩ => ?_
  subst he
  exact ⟨_, rfl, post_of_below hW' (fun _ _ _ => (trodAll_cons_mk (shut_bool Try.underlying4 _) trodAll_mk0)) (trodAll_cons_mk (Below.trod laidOut (by kernel_rfl) (of_decide_eq_true (by kernel_rfl)) k0 hg (fun x hx => by first | exact absurd hx (by simp) | exact hlt x (by simp [hx]))) (trodAll_cons_mk (Below.trod laidOut (by kernel_rfl) (of_decide_eq_true (by kernel_rfl)) k1 hg (fun x hx => by first | exact absurd hx (by simp) | exact hlt x (by simp [hx]))) trodAll_mk0)) rfl hg⟩

theorem over : Rows.deltaCutsRow.holds Try.pinned (OpenSpec.ofChange Rows.deltaCutsSpec) :=
  OpenClaim.holds_of_wide 3 Try.f3 rfl rfl rfl rfl rfl rfl rfl ⟨rfl, rfl, rfl, rfl, rfl⟩ rfl rfl rfl rfl rfl (by kernel_rfl) Try.func3 (by kernel_rfl)
    (of_decide_eq_true (by kernel_rfl)) (by unfold Func.isWrapper; first | (rw [if_pos (by decide +kernel)]; kernel_rfl) | (rw [if_neg (by decide +kernel)]; exact ⟨rfl, rfl⟩))
    (fun os started H enc _ => lifted os started H enc)
end DeltaCutsL

theorem deltaCuts_proved : Rows.DeltaCutsSaid := DeltaCutsL.over
#print axioms deltaCuts_proved
end Go.Proofs.Ytpamjalgcloehaa
