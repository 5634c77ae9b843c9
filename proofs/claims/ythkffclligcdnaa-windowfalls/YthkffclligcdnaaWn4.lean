/-
  Layer 13 (window): the document's answers; how many; the document's example; Last; arguments by texts.
-/
import Derived.Test.YthkffclligcdnaaWn2
import Derived.Test.YthkffclligcdnaaFr7
import Derived.Deep.Strs
namespace Go.Proofs.Ythkffclligcdnaa
open Go.ChangeShapes Go.WideShapes Go.ChangeAt Go.RowKit
set_option linter.unusedVariables false
set_option maxRecDepth 20000

def mostN (n : Int) : Nat := 1 + (n % 64).toNat
theorem most_bd (n : Int) : 1 ≤ mostN n ∧ mostN n ≤ 64 := by unfold mostN; omega
theorem most_any (w : World) (n : Int) : Calls Try.prog 10 #[.int .i64 n] w fun e w' => e = .returned (.int .i64 (mostN n : Nat)) ∧ w' = w := by
  have e0 : ((mostN n : Nat) : Int) = 1 + n % 64 := by unfold mostN; omega
  rw [e0]
  have h1 : IntKind.u64.wrap n = n % 18446744073709551616 := IntKind.wrap_u64 n
  have h2 : Int.tmod (n % 18446744073709551616) 64 = n % 64 := by
    rw [Int.tmod_eq_emod_of_nonneg (by omega)]; omega
  have h3 : IntKind.i64.wrap (n % 64) = n % 64 := by rw [IntKind.wrap_i64]; omega
  have h4 : IntKind.i64.wrap (1 + n % 64) = 1 + n % 64 := by rw [IntKind.wrap_i64]; omega
  have h5 : IntKind.u64.wrap (n % 64) = n % 64 := by rw [IntKind.wrap_u64]; omega
  go_enter Try.func10, Try.ntmps10
  go_wp2_with fail
  go_ret
  exact ⟨rfl, rfl⟩

/-- The document's Last: of numbers at g, o. -/
theorem rlast_any (w : World) (g o k cap M : Nat) (hM0 : 1 ≤ M) (hM : M ≤ 64) (hk : k ≤ cap) (hk2 : k ≤ 400) (hc : cap ≤ 9223372036854775807) :
    Calls Try.prog 18 #[.slice (some ⟨g, o, none⟩) k cap, .int .i64 (M : Nat)] w fun e w' => e = .returned (.slice (some ⟨g, o + (k - M), none⟩) (min k M) (cap - (k - M))) ∧ w' = w := by
  by_cases h : M < k
  · have h1 : decide ((M : Int) < (k : Int)) = true := by simp; omega
    obtain ⟨d, hd⟩ : ∃ d, k - M = d := ⟨_, rfl⟩
    have hw : IntKind.i64.wrap ((k : Int) - (M : Int)) = (d : Int) := by rw [IntKind.wrap_i64]; omega
    have hm : min k M = M := by omega
    rw [hm, hd]
    have i1 : (d : Int) ≤ (k : Int) := by omega
    have i2 : (0 : Int) ≤ (d : Int) := by omega
    have i3 : ¬ cap = d := by omega
    have i4 : k - d = M := by omega
    go_enter Try.func18, Try.ntmps18
    go_wp2_with fail
    go_ret
    exact ⟨rfl, rfl⟩
  · have h1 : decide ((M : Int) < (k : Int)) = false := by simp; omega
    have hm : min k M = k := by omega
    have hd : k - M = 0 := by omega
    rw [hm, hd]
    go_enter Try.func18, Try.ntmps18
    go_wp2_with fail
    go_ret
    exact ⟨rfl, rfl⟩

theorem fold_selfL (S : List Int) : ∀ x, S.head? = some x → S.foldl (fun a y => if decide (y < a) then y else a) x = minI S := by
  intro x hx
  cases S with
  | nil => cases hx
  | cons z l =>
    simp at hx; subst hx
    show l.foldl _ (if decide _ then z else z) = l.foldl _ z
    rw [ite_self]
set_option maxHeartbeats 1000000 in
theorem rleast_any (w : World) (g o k cap M : Nat) (X : List Int) (hX : X.length = k) (hk1 : 1 ≤ k) (hM0 : 1 ≤ M) (hM : M ≤ 64) (hk : k ≤ cap) (hk2 : k ≤ 400) (hc : cap ≤ 9223372036854775807)
    (hat : ∀ i, i < k → w.cell? ⟨g, o + i, none⟩ = some (.int .i64 (X.getD i 0))) :
    Calls Try.prog 16 #[.slice (some ⟨g, o, none⟩) k cap, .int .i64 (M : Nat)] w fun e w' => e = .returned (.tuple #[.int .i64 (minI (lastV M X k)), .bool true]) ∧ w' = w := by
  have HA : Hid (∀ i, i < min k M → w.cell? ⟨g, o + (k - M) + i, none⟩ = some (.int .i64 ((lastV M X k).getD i 0))) := fun i hi => by
    have e : (lastV M X k).getD i 0 = X.getD (k - M + i) 0 := by
      rw [List.getD_eq_getElem?_getD, lastV_at (by omega) hi, ← List.getD_eq_getElem?_getD]
    rw [e, Nat.add_assoc]
    exact hat _ (by omega)
  have HS : Hid ((lastV M X k).length = min k M) := lastV_len (by omega)
  obtain ⟨S, hS⟩ : ∃ S, lastV M X k = S := ⟨_, rfl⟩
  rw [hS] at HA HS ⊢
  obtain ⟨m, hm⟩ : ∃ m, min k M = m := ⟨_, rfl⟩
  have hm1 : 1 ≤ m := by omega
  have hm64 : m ≤ 64 := by omega
  have hRL : Hid (Calls Try.prog 18 #[.slice (some ⟨g, o, none⟩) k cap, .int .i64 (M : Nat)] w fun e w' => e = .returned (.slice (some ⟨g, o + (k - M), none⟩) m (cap - (k - M))) ∧ w' = w) := by have := rlast_any w g o k cap M hM0 hM hk hk2 hc; rw [hm] at this; exact this
  rw [hm] at HA HS
  obtain ⟨q, hq⟩ : ∃ q, o + (k - M) = q := ⟨_, rfl⟩
  obtain ⟨c, hcc⟩ : ∃ c, cap - (k - M) = c := ⟨_, rfl⟩
  rw [hq] at HA
  rw [hq, hcc] at hRL
  have hcm : m ≤ c := by omega
  have h0 : S.head? = some (S.getD 0 0) := by
    cases S with
    | nil => have := HS.out; simp at this; omega
    | cons z l => rfl
  have H0 : Hid (S.head? = some (S.getD 0 0)) := h0
  clear hS hm hq hcc hat hX h0
  have z1 : ((m : Int) == 0) = false := by simp; omega
  have z2 : ¬ m = 0 := by omega
  have z3 : (0 : Int) < (m : Int) := by omega
  have z4 : 0 < m := by omega
  go_enter Try.func16, Try.ntmps16
  go_wp2_with fail
  refine (hRL.out).mono ?_; rintro e w1 ⟨rfl, rfl⟩
  have c0 := HA.out 0 (by omega)
  rw [Nat.add_zero] at c0
  go_wp2_with fail
  go_loopg [6, 7] m (fun gh vx vi wr => ∃ (i : Nat), i + gh = m ∧ vi = .int .i64 i ∧ vx = .int .i64 ((S.take i).foldl (fun a y => if decide (y < a) then y else a) (S.getD 0 0)) ∧ wr = w1)
  case atStart => exact ⟨0, by omega, rfl, rfl, rfl⟩
  case round =>
    clear z1 z2 z3 z4 c0
    obtain ⟨i, hi, rfl, rfl, rfl⟩ := hrel
    by_cases him : i < m
    · have c1 := HA.out i him
      have hst : (S.take (i + 1)).foldl (fun a y => if decide (y < a) then y else a) (S.getD 0 0) = (if decide (S.getD i 0 < (S.take i).foldl (fun a y => if decide (y < a) then y else a) (S.getD 0 0)) then S.getD i 0 else (S.take i).foldl (fun a y => if decide (y < a) then y else a) (S.getD 0 0)) := by
        rw [List.take_succ_eq_append_getElem (by rw [HS.out]; exact him), List.foldl_append]
        simp only [List.foldl_cons, List.foldl_nil]
        rw [List.getD_eq_getElem?_getD (i := i), List.getElem?_eq_getElem (by rw [HS.out]; exact him)]
        rfl
      have HST : Hid _ := hst
      clear hst
      obtain ⟨a, ha⟩ : ∃ a, (S.take i).foldl (fun a y => if decide (y < a) then y else a) (S.getD 0 0) = a := ⟨_, rfl⟩
      obtain ⟨y, hy⟩ : ∃ y, S.getD i 0 = y := ⟨_, rfl⟩
      rw [ha, hy] at HST
      rw [hy] at c1
      rw [ha]
      clear ha hy
      have i1 : (0 : Int) ≤ (i : Int) := by omega
      have i2 : (i : Int) < (m : Int) := by omega
      by_cases hlt : y < a
      · go_wp2_with fail
        go_roundg (gk - 1)
        case measure => omega
        case rel => exact ⟨i + 1, by omega, by go_num, by rw [HST.out, if_pos (by simpa using hlt)], rfl⟩
      · go_wp2_with fail
        go_roundg (gk - 1)
        case measure => omega
        case rel => exact ⟨i + 1, by omega, by go_num, by rw [HST.out, if_neg (by simpa using hlt)], rfl⟩
    · obtain rfl : i = m := by omega
      have hfin : (S.take i).foldl (fun a y => if decide (y < a) then y else a) (S.getD 0 0) = minI S := by
        rw [List.take_of_length_le (by rw [HS.out]; exact Nat.le_refl _)]
        exact fold_selfL S _ H0.out
      rw [hfin]
      go_wp2_with fail
      go_ret2
      exact ⟨rfl, rfl⟩

theorem fold_selfG (S : List Int) : ∀ x, S.head? = some x → S.foldl (fun a y => if decide (a < y) then y else a) x = maxI S := by
  intro x hx
  cases S with
  | nil => cases hx
  | cons z l =>
    simp at hx; subst hx
    show l.foldl _ (if decide _ then z else z) = l.foldl _ z
    rw [ite_self]
set_option maxHeartbeats 1000000 in
theorem rgreatest_any (w : World) (g o k cap M : Nat) (X : List Int) (hX : X.length = k) (hk1 : 1 ≤ k) (hM0 : 1 ≤ M) (hM : M ≤ 64) (hk : k ≤ cap) (hk2 : k ≤ 400) (hc : cap ≤ 9223372036854775807)
    (hat : ∀ i, i < k → w.cell? ⟨g, o + i, none⟩ = some (.int .i64 (X.getD i 0))) :
    Calls Try.prog 17 #[.slice (some ⟨g, o, none⟩) k cap, .int .i64 (M : Nat)] w fun e w' => e = .returned (.tuple #[.int .i64 (maxI (lastV M X k)), .bool true]) ∧ w' = w := by
  have HA : Hid (∀ i, i < min k M → w.cell? ⟨g, o + (k - M) + i, none⟩ = some (.int .i64 ((lastV M X k).getD i 0))) := fun i hi => by
    have e : (lastV M X k).getD i 0 = X.getD (k - M + i) 0 := by
      rw [List.getD_eq_getElem?_getD, lastV_at (by omega) hi, ← List.getD_eq_getElem?_getD]
    rw [e, Nat.add_assoc]
    exact hat _ (by omega)
  have HS : Hid ((lastV M X k).length = min k M) := lastV_len (by omega)
  obtain ⟨S, hS⟩ : ∃ S, lastV M X k = S := ⟨_, rfl⟩
  rw [hS] at HA HS ⊢
  obtain ⟨m, hm⟩ : ∃ m, min k M = m := ⟨_, rfl⟩
  have hm1 : 1 ≤ m := by omega
  have hm64 : m ≤ 64 := by omega
  have hRL : Hid (Calls Try.prog 18 #[.slice (some ⟨g, o, none⟩) k cap, .int .i64 (M : Nat)] w fun e w' => e = .returned (.slice (some ⟨g, o + (k - M), none⟩) m (cap - (k - M))) ∧ w' = w) := by have := rlast_any w g o k cap M hM0 hM hk hk2 hc; rw [hm] at this; exact this
  rw [hm] at HA HS
  obtain ⟨q, hq⟩ : ∃ q, o + (k - M) = q := ⟨_, rfl⟩
  obtain ⟨c, hcc⟩ : ∃ c, cap - (k - M) = c := ⟨_, rfl⟩
  rw [hq] at HA
  rw [hq, hcc] at hRL
  have hcm : m ≤ c := by omega
  have h0 : S.head? = some (S.getD 0 0) := by
    cases S with
    | nil => have := HS.out; simp at this; omega
    | cons z l => rfl
  have H0 : Hid (S.head? = some (S.getD 0 0)) := h0
  clear hS hm hq hcc hat hX h0
  have z1 : ((m : Int) == 0) = false := by simp; omega
  have z2 : ¬ m = 0 := by omega
  have z3 : (0 : Int) < (m : Int) := by omega
  have z4 : 0 < m := by omega
  go_enter Try.func17, Try.ntmps17
  go_wp2_with fail
  refine (hRL.out).mono ?_; rintro e w1 ⟨rfl, rfl⟩
  have c0 := HA.out 0 (by omega)
  rw [Nat.add_zero] at c0
  go_wp2_with fail
  go_loopg [6, 7] m (fun gh vx vi wr => ∃ (i : Nat), i + gh = m ∧ vi = .int .i64 i ∧ vx = .int .i64 ((S.take i).foldl (fun a y => if decide (a < y) then y else a) (S.getD 0 0)) ∧ wr = w1)
  case atStart => exact ⟨0, by omega, rfl, rfl, rfl⟩
  case round =>
    clear z1 z2 z3 z4 c0
    obtain ⟨i, hi, rfl, rfl, rfl⟩ := hrel
    by_cases him : i < m
    · have c1 := HA.out i him
      have hst : (S.take (i + 1)).foldl (fun a y => if decide (a < y) then y else a) (S.getD 0 0) = (if decide ((S.take i).foldl (fun a y => if decide (a < y) then y else a) (S.getD 0 0) < S.getD i 0) then S.getD i 0 else (S.take i).foldl (fun a y => if decide (a < y) then y else a) (S.getD 0 0)) := by
        rw [List.take_succ_eq_append_getElem (by rw [HS.out]; exact him), List.foldl_append]
        simp only [List.foldl_cons, List.foldl_nil]
        rw [List.getD_eq_getElem?_getD (i := i), List.getElem?_eq_getElem (by rw [HS.out]; exact him)]
        rfl
      have HST : Hid _ := hst
      clear hst
      obtain ⟨a, ha⟩ : ∃ a, (S.take i).foldl (fun a y => if decide (a < y) then y else a) (S.getD 0 0) = a := ⟨_, rfl⟩
      obtain ⟨y, hy⟩ : ∃ y, S.getD i 0 = y := ⟨_, rfl⟩
      rw [ha, hy] at HST
      rw [hy] at c1
      rw [ha]
      clear ha hy
      have i1 : (0 : Int) ≤ (i : Int) := by omega
      have i2 : (i : Int) < (m : Int) := by omega
      by_cases hlt : a < y
      · go_wp2_with fail
        go_roundg (gk - 1)
        case measure => omega
        case rel => exact ⟨i + 1, by omega, by go_num, by rw [HST.out, if_pos (by simpa using hlt)], rfl⟩
      · go_wp2_with fail
        go_roundg (gk - 1)
        case measure => omega
        case rel => exact ⟨i + 1, by omega, by go_num, by rw [HST.out, if_neg (by simpa using hlt)], rfl⟩
    · obtain rfl : i = m := by omega
      have hfin : (S.take i).foldl (fun a y => if decide (a < y) then y else a) (S.getD 0 0) = maxI S := by
        rw [List.take_of_length_le (by rw [HS.out]; exact Nat.le_refl _)]
        exact fold_selfG S _ H0.out
      rw [hfin]
      go_wp2_with fail
      go_ret2
      exact ⟨rfl, rfl⟩

def cI (n : Int) : Value := .int .i64 n
def xa : Wd := ⟨2, [.int .i64 5]⟩
def xb : Wd := ⟨2, [.int .i64 5, .int .i64 3]⟩
def xc : Wd := ⟨2, [.int .i64 3, .int .i64 4]⟩
def xd : Wd := ⟨2, [.int .i64 4, .int .i64 9]⟩
set_option maxHeartbeats 4000000 in
theorem wn_alive (w : World) : Calls Try.prog 11 #[] w fun e w' => e = .returned (.bool true) ∧ Below w.heap.size w w' := by
  have pa : IntsV xa.L := IntsV.enc [5]
  have pb : IntsV xb.L := IntsV.enc [5, 3]
  have pc : IntsV xc.L := IntsV.enc [3, 4]
  have pd : IntsV xd.L := IntsV.enc [4, 9]
  have ea : addW ⟨2, []⟩ (.int .i64 5) = xa := rfl
  have eb : addW xa (.int .i64 3) = xb := rfl
  have ec : addW xb (.int .i64 4) = xc := rfl
  have ed : addW xc (.int .i64 9) = xd := rfl
  have HE : Hid (addW ⟨2, []⟩ (.int .i64 5) = xa ∧ addW xa (.int .i64 3) = xb ∧ addW xb (.int .i64 4) = xc ∧ addW xc (.int .i64 9) = xd) := ⟨ea, eb, ec, ed⟩
  have HP : Hid (IntsV xa.L ∧ IntsV xb.L ∧ IntsV xc.L ∧ IntsV xd.L) := ⟨pa, pb, pc, pd⟩
  have HB : Hid (best ltI xc.L = .int .i64 3 ∧ best gtI xc.L = .int .i64 4 ∧ best ltI xd.L = .int .i64 4 ∧ best gtI xd.L = .int .i64 9) := ⟨rfl, rfl, rfl, rfl⟩
  obtain ⟨H, hH⟩ : ∃ H, w.heap.size = H := ⟨_, rfl⟩
  have HH : Hid (w.heap.size = H) := hH
  clear pa pb pc pd ea eb ec ed
  go_enter Try.func11, Try.ntmps11
  go_wp2_with fail
  refine (wnew_anyI w 2 (by omega) (by omega)).mono ?_; rintro e w1 ⟨rfl, r1, b1, z1⟩
  rw [hH] at r1 b1
  rw [hH]
  have R1 : Hid (WinV 3 w1 H H (.slice none 0 0) ⟨2, []⟩) := r1
  have B1 : Hid (Below H w w1) := b1
  clear r1 b1 z1 hH
  go_wp2_with fail
  refine (wadd_anyI w1 H H _ _ R1.out (fun u hu => by cases hu) 5).mono ?_; rintro e w2 ⟨v2, rfl, r2, c2⟩
  rw [HE.out.1] at r2
  have R2 : Hid (WinV 3 w2 H H v2 xa) := r2
  have B2 : Hid (Below H w w2) := B1.out.trans c2.below
  clear r2 c2 R1 B1
  go_wp2_with fail
  refine (wadd_anyI w2 H H _ _ R2.out HP.out.1 3).mono ?_; rintro e w3 ⟨v3, rfl, r3, c3⟩
  rw [HE.out.2.1] at r3
  have R3 : Hid (WinV 3 w3 H H v3 xb) := r3
  have B3 : Hid (Below H w w3) := B2.out.trans c3.below
  clear r3 c3 R2 B2
  go_wp2_with fail
  refine (wadd_anyI w3 H H _ _ R3.out HP.out.2.1 4).mono ?_; rintro e w4 ⟨v4, rfl, r4, c4⟩
  rw [HE.out.2.2.1] at r4
  have R4 : Hid (WinV 3 w4 H H v4 xc) := r4
  have B4 : Hid (Below H w w4) := B3.out.trans c4.below
  clear r4 c4 R3 B3
  go_wp2_with fail
  refine (least_anyI w4 H H _ _ R4.out HP.out.2.2.1 (by simp [xc])).mono ?_; rintro e w5 ⟨rfl, q, rfl⟩
  have R5 : Hid (WinV 3 (w4.drewN q) H H v4 xc) := R4.out.drewN q
  have B5 : Hid (Below H w (w4.drewN q)) := below_drewN B4.out q
  rw [HB.out.1]
  clear R4 B4
  generalize w4.drewN q = w5 at R5 B5 ⊢
  go_wp2_with fail
  refine (greatest_anyI w5 H H _ _ R5.out HP.out.2.2.1 (by simp [xc])).mono ?_; rintro e w6 ⟨rfl, q, rfl⟩
  have R6 : Hid (WinV 3 (w5.drewN q) H H v4 xc) := R5.out.drewN q
  have B6 : Hid (Below H w (w5.drewN q)) := below_drewN B5.out q
  rw [HB.out.2.1]
  clear R5 B5
  generalize w5.drewN q = w6 at R6 B6 ⊢
  go_wp2_with fail
  refine (wadd_anyI w6 H H _ _ R6.out HP.out.2.2.1 9).mono ?_; rintro e w7 ⟨v7, rfl, r7, c7⟩
  rw [HE.out.2.2.2] at r7
  have R7 : Hid (WinV 3 w7 H H v7 xd) := r7
  have B7 : Hid (Below H w w7) := B6.out.trans c7.below
  clear r7 c7 R6 B6
  go_wp2_with fail
  refine (least_anyI w7 H H _ _ R7.out HP.out.2.2.2 (by simp [xd])).mono ?_; rintro e w8 ⟨rfl, q, rfl⟩
  have R8 : Hid (WinV 3 (w7.drewN q) H H v7 xd) := R7.out.drewN q
  have B8 : Hid (Below H w (w7.drewN q)) := below_drewN B7.out q
  rw [HB.out.2.2.1]
  clear R7 B7
  generalize w7.drewN q = w8 at R8 B8 ⊢
  go_wp2_with fail
  refine (greatest_anyI w8 H H _ _ R8.out HP.out.2.2.2 (by simp [xd])).mono ?_; rintro e w9 ⟨rfl, q, rfl⟩
  have B9 : Hid (Below H w (w8.drewN q)) := below_drewN B8.out q
  rw [HB.out.2.2.2]
  go_wp2_with fail
  go_ret
  exact ⟨rfl, by rw [HH.out]; exact B9.out⟩
theorem ownL_empty {e : TypeId} (w : World) : OwnL e (w.alloc (.cells #[] e)) w.heap.size (.slice (some ⟨w.heap.size, 0, none⟩) 0 0) [] :=
  ⟨rfl, Or.inr ⟨w.heap.size, 0, #[], rfl, Nat.le_refl _, heap_alloc_new w _, Nat.le_refl _, by omega, rfl, rfl⟩⟩
/-- 'append(s, x...)' of cells, however many. -/
theorem growLs_wp {P : Program} {w : World} {ops : Array Oper} {rest : List Oper} {o : Oper} {a : Act} {Q : Exit → Act → World → Prop} (hgd : o.guard = none) (t e : TypeId) (zr : Value) (by_ : Nat) (ht : P.underlying t = some (.slice e)) (hz : (P.info? e).map (fun i => (i.zero, i.size, i.bytes)) = some (some zr, 1, by_)) (hby : by_ ≤ 64) (hzr : zr.cells.size = 1) (s x : Operand)
    (ho : o.op = .call { callee := .builtin .append, args := #[s, x], argTypes := #[t, t] })
    (B : Nat) (v : Value) (L : List Value) (hs : a.eval s = v) (hown : OwnL e w B v L) (g0 m c0 : Nat) (hx : a.eval x = .slice (some ⟨g0, 0, none⟩) m c0)
    (N : List Value) (hN : N.length = m) (hat : ∀ j u, N[j]? = some u → w.cell? ⟨g0, j, none⟩ = some u) (h1 : ∀ u ∈ N, u.oneCell' = true) (hm : 0 < m) (hlen : L.length + m ≤ 1000000) (hB : B ≤ w.heap.size)
    (h : ∀ v' w', OwnL e w' B v' (L ++ N) → Grow B v w v' w' → wpList P ops Q rest (a.put o.dst v') w') : wpList P ops Q (o :: rest) a w := by
  refine wpList_plain hgd fun K hK => ?_
  obtain ⟨i0, hi, hz0, hz1, hz2⟩ := info_parts hz
  have hmm : (L.length + m) * by_ ≤ (L.length + m) * 64 := Nat.mul_le_mul_left _ hby
  refine wp_append_lies w s x t ho B e i0 zr 1 by_ ht hi hz0 hz1 hz2 hzr (by decide) v L.length L hs hown ⟨g0, 0, none⟩ m c0 N hx (by omega) (fun j y hu => ?_) h1 hm (by unfold maxLen; omega) (by omega) hB w.heap.size rfl ?_
  · rw [Addr.add_lit, Nat.zero_add]
    exact hat j y hu
  intro g cap' w' hown' hgrow hor hlt
  refine hK _ _ (h _ w' ?_ ⟨(Below.refl B w).grown hgrow hB (fun k hk => (hown.lt k hk).1), hgrow, ?_⟩)
  · unfold OwnL
    rw [List.length_append, hN]
    exact hown'
  · rcases hor with e | e
    · exact Or.inl e.symm
    · right; rw [e]; rfl
theorem wclone_any (w : World) (g n cap : Nat) (L : List Value) (hL : IntsV L) (hn : L.length = n) (h1 : 1 ≤ n) (h64 : n ≤ 1000) (hc : n ≤ cap) (hat : ∀ j u, L[j]? = some u → w.cell? ⟨g, j, none⟩ = some u) (hg : g < w.heap.size) :
    Calls Try.prog 34 #[.slice (some ⟨g, 0, none⟩) n cap] w fun e w' => ∃ u, e = .returned u ∧ OwnL 2 w' w.heap.size u L ∧ Below w.heap.size w w' := by
  have q22 : ∀ (w : World) (a : Option Addr) (n c n' c' : Nat), (binOp .eql 22 (.slice a n c) (.slice none n' c')).run Try.prog w = .ok (.bool a.isNone) w := fun w a n c n' c' => Lib.run_eql_slice_nil w _ _ a n c n' c' Try.underlying22
  have HO : Hid (OwnL 2 (w.alloc (.cells #[] 2)) w.heap.size (.slice (some ⟨w.heap.size, 0, none⟩) 0 0) []) := ownL_empty w
  have HA : Hid (∀ j u, L[j]? = some u → (w.alloc (.cells #[] 2)).cell? ⟨g, j, none⟩ = some u) := fun j u hu => by
    rw [World.cell?_alloc_past _ g j hg]; exact hat j u hu
  have HL : Hid (∀ u ∈ L, u.oneCell' = true) := fun u hu => by obtain ⟨x, rfl⟩ := hL u hu; rfl
  have HN : Hid (L.length = n) := hn
  clear hat hL hn
  go_enter Try.func34, Try.ntmps34
  go_wp2_with (at_builtin; refine growLs_wp rfl 22 2 (.int .i64 0) 8 Try.underlying22 infoWJ (by omega) rfl _ _ rfl w.heap.size _ [] rfl (by exact HO.out) g n cap rfl L HN.out HA.out HL.out (by omega) (by simp; omega) (by simp) ?_; intro u w1 own1 g1)
  go_ret
  exact ⟨_, rfl, own1, ((Below.refl _ w).alloc (Nat.le_refl _) _).trans g1.below⟩
/-- Last: the call's own. -/
theorem wlast_any (w : World) (B R : Nat) (v : Value) (s : Wd) (h : WinV 2 w B R v s) (hL : IntsV s.L) (hne : s.L ≠ []) :
    Calls Try.prog 19 #[.pointer (some ⟨R, 0, none⟩)] w fun e w' => ∃ u, e = .returned u ∧ OwnL 2 w' w.heap.size u s.L ∧ Below w.heap.size w w' := by
  obtain ⟨g, cap, cur, rfl, hB, hg, hc, hm, hcs, htk⟩ := h.own.some_ hne
  have hn1 : 1 ≤ s.L.length := List.length_pos_iff.2 hne
  have hn64 : s.L.length ≤ 1000 := by have := h.ok.len; have := h.ok.hi; omega
  have HC : Hid (Calls Try.prog 34 #[.slice (some ⟨g, 0, none⟩) s.L.length cap] w fun e w' => ∃ u, e = .returned u ∧ OwnL 2 w' w.heap.size u s.L ∧ Below w.heap.size w w') :=
    wclone_any w g _ cap s.L hL rfl hn1 hn64 hc (fun j u hu => h.own.at rfl hu) (Array.getElem?_eq_some_iff.1 hg).1
  have c1 := h.blk.cell 1 _ rfl
  clear h hg hcs htk
  go_enter Try.func19, Try.ntmps19
  go_wp2_with fail
  refine HC.out.mono ?_; rintro e w1 ⟨u, rfl, o1, b1⟩
  go_wp2_with fail
  go_ret
  exact ⟨_, rfl, o1, b1⟩
theorem wlast_nilS (w : World) : Calls Try.prog 24 #[.pointer none] w fun e w' => e = .returned (.slice none 0 0) ∧ w' = w := by
  go_enter Try.func24, Try.ntmps24
  go_wp2_with fail
  go_ret
  exact ⟨rfl, rfl⟩
end Go.Proofs.Ythkffclligcdnaa
