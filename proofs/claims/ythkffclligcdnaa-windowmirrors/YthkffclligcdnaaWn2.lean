/-
  Layer 13 (window): New, Len, Add, Least, Greatest of windows, for samples of three kinds (written by tools/wn2.py).
-/
import Derived.Test.YthkffclligcdnaaWn3
import Derived.Test.YthkffclligcdnaaRg3
import Derived.Deep.LoopGhost
import Derived.Deep.CutBlock
import Derived.Deep.DeepCutAuto
import Derived.Deep.RegionHeld3
import Derived.Deep.RegionHeldLaw
import Derived.Deep.DeepMust
namespace Go.Proofs.Ythkffclligcdnaa
open Go.RowKit
set_option linter.unusedVariables false
set_option maxRecDepth 20000
def IntsV (L : List Value) : Prop := ∀ u ∈ L, ∃ x, u = .int .i64 x
def StrsV (L : List Value) : Prop := ∀ u ∈ L, ∃ x, u = .string x
theorem IntsV.enc (l : List Int) : IntsV (l.map encI) := fun u hu => by obtain ⟨x, _, rfl⟩ := List.mem_map.1 hu; exact ⟨x, rfl⟩
theorem StrsV.enc (l : List ByteArray) : StrsV (l.map encS) := fun u hu => by obtain ⟨x, _, rfl⟩ := List.mem_map.1 hu; exact ⟨x, rfl⟩
theorem IntsV.drop {L : List Value} (h : IntsV L) (i : Nat) : IntsV (L.drop i) := fun u hu => h u (List.mem_of_mem_drop hu)
theorem StrsV.drop {L : List Value} (h : StrsV L) (i : Nat) : StrsV (L.drop i) := fun u hu => h u (List.mem_of_mem_drop hu)
theorem IntsV.at {L : List Value} (h : IntsV L) {i : Nat} (hi : i < L.length) : ∃ x, L[i]? = some (.int .i64 x) := by
  obtain ⟨x, hx⟩ := h L[i] (List.getElem_mem hi)
  exact ⟨x, by rw [List.getElem?_eq_getElem hi, hx]⟩
theorem StrsV.at {L : List Value} (h : StrsV L) {i : Nat} (hi : i < L.length) : ∃ x, L[i]? = some (.string x) := by
  obtain ⟨x, hx⟩ := h L[i] (List.getElem_mem hi)
  exact ⟨x, by rw [List.getElem?_eq_getElem hi, hx]⟩
theorem best_mem_int {lt : Value → Value → Bool} : ∀ {L : List Value}, IntsV L → L ≠ [] → ∃ x, best lt L = .int .i64 x
  | [], _, h => absurd rfl h
  | x :: l, hL, _ => by
    have : ∀ (l : List Value) (x : Value), (∃ y, x = .int .i64 y) → IntsV l → ∃ y, l.foldl (fun a y => if lt y a then y else a) x = .int .i64 y := by
      intro l
      induction l with
      | nil => exact fun x h _ => h
      | cons z l ih =>
        intro x h hl
        rw [List.foldl_cons]
        refine ih _ ?_ (fun u hu => hl u (List.mem_cons_of_mem _ hu))
        split
        · exact hl z List.mem_cons_self
        · exact h
    exact this l x (hL x List.mem_cons_self) (fun u hu => hL u (List.mem_cons_of_mem _ hu))
theorem best_one {lt : Value → Value → Bool} {L : List Value} {u : Value} (h0 : L[0]? = some u) (h : ∀ j, 1 ≤ j → j < L.length → lt (L.getD j u) u = false) : best lt L = u := by
  cases L with
  | nil => simp at h0
  | cons x l =>
    simp at h0; subst h0
    refine best_none fun j hj => ?_
    have := h (j + 1) (by omega) (by simp; omega)
    simpa [List.getD] using this
theorem best_on {lt : Value → Value → Bool} {L : List Value} {u : Value} {i : Nat} (h0 : L[0]? = some u) (h1 : 1 ≤ i) (hi : i < L.length) (h : ∀ j, 1 ≤ j → j < i → lt (L.getD j u) u = false) (h2 : lt (L.getD i u) u = true) : best lt L = best lt (L.drop i) := by
  cases L with
  | nil => simp at h0
  | cons x l =>
    simp at h0; subst h0
    obtain ⟨k, rfl⟩ : ∃ k, i = k + 1 := ⟨i - 1, by omega⟩
    rw [List.drop_succ_cons]
    refine best_drop (by simp at hi; omega) (fun j hj => ?_) (by simpa [List.getD] using h2)
    have := h (j + 1) (by omega) (by omega)
    simpa [List.getD] using this


theorem infoWS : (Try.prog.info? 9).map (fun i => (i.zero, i.size, i.bytes)) = some (some (.string ⟨#[]⟩), 1, 16) := by kernel_rfl
theorem zeroWS (w : World) : (zeroValue 9).run Try.prog w = .ok (.string ⟨#[]⟩) w := by kernel_rfl
theorem wlen_anyS (w : World) (B R : Nat) (v : Value) (s : Wd) (h : WinV 9 w B R v s) :
    Calls Try.prog 23 #[.pointer (some ⟨R, 0, none⟩)] w fun e w' => e = .returned (.int .i64 (s.L.length : Nat)) ∧ w' = w := by
  obtain ⟨ao, cap, rfl, h1, h2, h3⟩ := h.own.form
  have c1 := h.blk.cell 1 _ rfl
  clear h h3
  go_enter Try.func23, Try.ntmps23
  go_wp2_with fail
  go_ret
  exact ⟨rfl, rfl⟩
theorem wlen_nilS (w : World) : Calls Try.prog 23 #[.pointer none] w fun e w' => e = .returned (.int .i64 0) ∧ w' = w := by
  go_enter Try.func23, Try.ntmps23
  go_wp2_with fail
  go_ret
  exact ⟨rfl, rfl⟩
theorem wadd_nilS (w : World) (x : ByteArray) : Calls Try.prog 22 #[.pointer none, .string x] w fun e w' => e = .returned (.int .i64 1) ∧ w' = w := by
  go_enter Try.func22, Try.ntmps22
  go_wp2_with fail
  go_ret
  exact ⟨rfl, rfl⟩
/-- New. -/
theorem wnew_noS (w : World) (m : Int) (hm : m < 1 ∨ 64 < m) : Calls Try.prog 25 #[.int .i64 m] w fun e w' => e = .returned (.tuple #[.pointer none, .int .i64 3]) ∧ w' = w := by
  by_cases h0 : m < 1
  · have d0 : decide (m < 1) = true := by simpa using h0
    go_enter Try.func25, Try.ntmps25
    go_wp2_with fail
    go_ret2
    exact ⟨rfl, rfl⟩
  · have d0 : decide (m < 1) = false := by simpa using h0
    have d1 : decide (64 < m) = true := by simp; omega
    go_enter Try.func25, Try.ntmps25
    go_wp2_with fail
    go_ret2
    exact ⟨rfl, rfl⟩
theorem wnew_anyS (w : World) (m : Nat) (h1 : 1 ≤ m) (h2 : m ≤ 64) : Calls Try.prog 25 #[.int .i64 (m : Nat)] w fun e w' => e = .returned (.tuple #[.pointer (some ⟨w.heap.size, 0, none⟩), .int .i64 0]) ∧ WinV 9 w' w.heap.size w.heap.size (.slice none 0 0) ⟨m, []⟩ ∧ Below w.heap.size w w' ∧ w'.heap.size = w.heap.size + 1 := by
  have d0 : decide ((m : Int) < 1) = false := by simp; omega
  have d1 : decide ((64 : Int) < (m : Int)) = false := by simp; omega
  go_enter Try.func25, Try.ntmps25
  go_wp2_with fail
  go_ret2
  obtain ⟨W1, hW1⟩ : ∃ W1, w.alloc (.cells #[.int .i64 (m : Nat), .slice none 0 0] 66) = W1 := ⟨_, rfl⟩
  obtain ⟨x1, x2, x3, _⟩ := boxA hW1
  rw [hW1]
  exact ⟨rfl, ⟨x1, OwnL.nil _ _, ⟨h1, h2, by simp⟩, (by simp [Value.ownBlock]), Nat.le_refl _⟩, x2, x3⟩
theorem clo_ltS (w : World) (x y : ByteArray) : Calls Try.prog 36 #[.string x, .string y] w fun e w' => e = .returned (.bool (ltS (.string x) (.string y))) ∧ w' = w := by
  show Calls Try.prog 36 #[.string x, .string y] w fun e w' => e = .returned (.bool (Op.bytesLess x.toList y.toList)) ∧ w' = w
  go_enter Try.func36, Try.ntmps36
  go_wp2_with fail
  go_ret
  exact ⟨rfl, rfl⟩
theorem clo_gtS (w : World) (x y : ByteArray) : Calls Try.prog 37 #[.string x, .string y] w fun e w' => e = .returned (.bool (gtS (.string x) (.string y))) ∧ w' = w := by
  show Calls Try.prog 37 #[.string x, .string y] w fun e w' => e = .returned (.bool (!Op.bytesLess x.toList y.toList && !(x.toList == y.toList))) ∧ w' = w
  go_enter Try.func37, Try.ntmps37
  go_wp2_with fail
  go_ret
  exact ⟨rfl, rfl⟩
set_option maxHeartbeats 4000000 in
theorem behind_anyS (F : Nat) (lt : Value → Value → Bool) (hF : ∀ args u, (callFunc F args).run Try.prog u = .ok (.enter F args) u)
    (hf : ∀ u (x y : ByteArray), Calls Try.prog F #[.string x, .string y] u fun e u' => e = .returned (.bool (lt (.string x) (.string y))) ∧ u' = u)
    (w : World) (L : List Value) (hL : StrsV L) (n : Nat) (hn : L.length = n) (h1 : 1 ≤ n) (h64 : n ≤ 64) (g o cap : Nat) (hc : n ≤ cap) (hcm : cap ≤ 9223372036854775807)
    (hat : ∀ i u, L[i]? = some u → w.cell? ⟨g, o + i, none⟩ = some u) :
    Calls Try.prog 45 #[.slice (some ⟨g, o, none⟩) n cap, .func (.func F) #[] #[]] w fun e w' =>
      ∃ u, e = .returned u ∧ (∃ q, w' = w.drewN q) ∧ ((∃ i, 1 ≤ i ∧ i < n ∧ u = .slice (some ⟨g, o + i, none⟩) (n - i) (cap - i) ∧ best lt L = best lt (L.drop i)) ∨ (u = .slice none 0 0 ∧ L[0]? = some (best lt L))) := by
  have HL : Hid (StrsV L) := hL
  have HN : Hid (L.length = n) := hn
  have HA : Hid (∀ i u, L[i]? = some u → w.cell? ⟨g, o + i, none⟩ = some u) := hat
  obtain ⟨y, hy⟩ := hL.at (i := 0) (by omega)
  have HY : Hid (L[0]? = some (.string y)) := hy
  clear hL hn hat hy
  go_enter Try.func45, Try.ntmps45
  go_wp2_with fail
  go_loopg [5] (n - 1) (fun g' i wr => ∃ (k q : Nat), k + g' = n ∧ 1 ≤ k ∧ i = .int .i64 k ∧ wr = w.drewN q ∧ ∀ j, 1 ≤ j → j < k → lt (L.getD j (.string y)) (.string y) = false)
  case atStart => exact ⟨1, 0, by omega, by omega, rfl, rfl, fun j h1 h2 => by omega⟩
  case round =>
    obtain ⟨k, q, hk, hk1, rfl, rfl, hj⟩ := hrel
    have HJ : Hid (∀ j, 1 ≤ j → j < k → lt (L.getD j (.string y)) (.string y) = false) := hj
    clear hj
    by_cases hkn : k < n
    · obtain ⟨x, hx⟩ := HL.out.at (i := k) (by rw [HN.out]; exact hkn)
      have HX : Hid (L.getD k (.string y) = .string x) := by show L.getD k (.string y) = _; rw [List.getD_eq_getElem?_getD, hx]; rfl
      have c0 : (w.drewN q).cell? ⟨g, o, none⟩ = some (.string y) := HA.out 0 _ HY.out
      have c1 : (w.drewN q).cell? ⟨g, o + k, none⟩ = some (.string x) := HA.out k _ hx
      clear hx
      generalize hwr : w.drewN q = wr at c0 c1 ⊢
      have i1 : (0 : Int) ≤ (k : Int) := by omega
      have i2 : (k : Int) < (n : Int) := by omega
      have i3 : (0 : Int) < (n : Int) := by omega
      have i4 : ¬ cap = k := by omega
      have i5 : (k : Int) ≤ (n : Int) := by omega
      have i6 : 0 < n := by omega
      go_wp2_with fail
      go_region_held3 (fun w' => w'.cell? ⟨g, o, none⟩ = some (.string y) ∧ w'.cell? ⟨g, o + k, none⟩ = some (.string x)) (first | with_reducible exact ⟨c0, c1⟩ | go_keep) (first | ((with_reducible refine (hf _ x y).mono ?_); rintro e w1 ⟨rfl, rfl⟩))
      cases hlt : lt (.string x) (.string y) with
      | true =>
        go_wp2_with fail
        go_ret
        exact ⟨_, rfl, ⟨q + 1, by rw [← hwr]; rfl⟩, Or.inl ⟨k, hk1, hkn, rfl, best_on HY.out hk1 (by rw [HN.out]; exact hkn) HJ.out (by rw [HX.out]; exact hlt)⟩⟩
      | false =>
        go_wp2_with fail
        go_roundg (gk - 1)
        case measure => omega
        case rel => exact ⟨k + 1, q + 1, by omega, by omega, by go_num, by rw [← hwr]; rfl, fun j h1 h2 => by
          rcases Nat.lt_or_eq_of_le (Nat.le_of_lt_succ h2) with h | h
          · exact HJ.out j h1 h
          · rw [h, HX.out]; exact hlt⟩
    · obtain rfl : k = n := by omega
      go_wp2_with fail
      go_ret
      refine ⟨_, rfl, ⟨_, rfl⟩, Or.inr ⟨rfl, ?_⟩⟩
      rw [best_one HY.out (fun j h1 h2 => HJ.out j h1 (by rw [HN.out] at h2; exact h2))]
      exact HY.out
set_option maxHeartbeats 4000000 in
theorem end_anyS (F : Nat) (lt : Value → Value → Bool) (hF : ∀ args u, (callFunc F args).run Try.prog u = .ok (.enter F args) u)
    (hf : ∀ u (x y : ByteArray), Calls Try.prog F #[.string x, .string y] u fun e u' => e = .returned (.bool (lt (.string x) (.string y))) ∧ u' = u)
    (w : World) (B R : Nat) (v : Value) (s : Wd) (h : WinV 9 w B R v s) (hL : StrsV s.L) (hne : s.L ≠ []) :
    Calls Try.prog 35 #[.pointer (some ⟨R, 0, none⟩), .func (.func F) #[] #[]] w fun e w' => e = .returned (.tuple #[best lt s.L, .bool true]) ∧ ∃ q, w' = w.drewN q := by
  have H0 : Hid (WinV 9 w B R v s) := h
  have HL : Hid (StrsV s.L) := hL
  obtain ⟨g, cap, cur, rfl, hB, hg, hc, hcm, hcs, htk⟩ := h.own.some_ hne
  have hat : ∀ i u, s.L[i]? = some u → w.cell? ⟨g, 0 + i, none⟩ = some u := fun i u hu => by rw [Nat.zero_add]; exact h.own.at rfl hu
  have HA : Hid (∀ i u, s.L[i]? = some u → w.cell? ⟨g, 0 + i, none⟩ = some u) := hat
  have c1 := h.blk.cell 1 _ rfl
  obtain ⟨n, hn⟩ : ∃ n, s.L.length = n := ⟨_, rfl⟩
  have HN : Hid (s.L.length = n) := hn
  have h1 : 1 ≤ n := by have := List.length_pos_iff.2 hne; omega
  have h64 : n ≤ 64 := by have := h.ok.len; have := h.ok.hi; omega
  rw [hn] at hc c1 H0
  clear h hL hat hn hg hcs htk hB hne
  have z1 : ((n : Int) == 0) = false := by simp; omega
  have z2 : decide ((n : Int) = 0) = false := by simp; omega
  have z3 : ¬ n = 0 := by omega
  go_enter Try.func35, Try.ntmps35
  go_wp2_with fail
  refine (wlen_anyS w B R _ s H0.out).mono ?_; rintro e w1 ⟨rfl, rfl⟩
  rw [HN.out]
  clear H0
  go_wp2_with fail
  refine (behind_anyS F lt hF hf w1 s.L HL.out n HN.out h1 h64 g 0 cap hc hcm HA.out).mono ?_; rintro e w2 ⟨u, rfl, ⟨q, rfl⟩, hu⟩
  have HU : Hid _ := hu
  clear hu c1 z1 z2 z3
  go_wp2_with fail
  go_loopg [7, 8] n (fun gh row nx wr => ∃ (o m c q : Nat) (u : Value), o + m = n ∧ 1 ≤ m ∧ m ≤ gh ∧ m ≤ c ∧ c ≤ 9223372036854775807 ∧ row = .slice (some ⟨g, o, none⟩) m c ∧ nx = u ∧ wr = w1.drewN q ∧ best lt s.L = best lt (s.L.drop o) ∧
      ((∃ i, 1 ≤ i ∧ i < m ∧ u = .slice (some ⟨g, o + i, none⟩) (m - i) (c - i) ∧ best lt (s.L.drop o) = best lt ((s.L.drop o).drop i)) ∨ (u = .slice none 0 0 ∧ (s.L.drop o)[0]? = some (best lt (s.L.drop o)))))
  case atStart => exact ⟨0, n, cap, q, u, by omega, h1, Nat.le_refl _, hc, hcm, rfl, rfl, rfl, by rw [List.drop_zero], by rw [List.drop_zero]; exact HU.out⟩
  case round =>
    clear HU
    obtain ⟨o, m, c, q, u, hom, hm1, hmg, hmc, hcc, rfl, rfl, rfl, hb, hu⟩ := hrel
    have HB : Hid (best lt s.L = best lt (s.L.drop o)) := hb
    rcases hu with ⟨i, hi1, him, rfl, hi⟩ | ⟨rfl, h0⟩
    · have HI : Hid (best lt (s.L.drop o) = best lt ((s.L.drop o).drop i)) := hi
      obtain ⟨m', hm'⟩ : ∃ m', m - i = m' := ⟨_, rfl⟩
      obtain ⟨c', hc'⟩ : ∃ c', c - i = c' := ⟨_, rfl⟩
      rw [hm', hc']
      have hm1' : 1 ≤ m' := by omega
      have hpos : (0 : Int) < (m' : Int) := by omega
      have hpos2 : decide ((0 : Int) < (m' : Int)) = true := by simpa using hpos
      have hpos3 : 0 < m' := by omega
      have hmc' : m' ≤ c' := by omega
      have hcc' : c' ≤ 9223372036854775807 := by omega
      have hlen : (s.L.drop (o + i)).length = m' := by rw [List.length_drop, HN.out]; omega
      have HLN : Hid ((s.L.drop (o + i)).length = m') := hlen
      have HA2 : Hid (∀ j y, (s.L.drop (o + i))[j]? = some y → (w1.drewN q).cell? ⟨g, (o + i) + j, none⟩ = some y) := fun j y hy => by
        rw [List.getElem?_drop] at hy
        have := HA.out (o + i + j) y hy
        rw [Nat.zero_add] at this
        exact this
      have HB2 : Hid (best lt s.L = best lt (s.L.drop (o + i))) := by
        show best lt s.L = best lt (s.L.drop (o + i))
        rw [HB.out, HI.out, List.drop_drop]
      clear hb hi hlen
      go_wp2_with fail
      refine (behind_anyS F lt hF hf (w1.drewN q) (s.L.drop (o + i)) (HL.out.drop (o + i)) m' HLN.out hm1' (by omega) g (o + i) c' hmc' hcc' HA2.out).mono ?_; rintro e w3 ⟨u3, rfl, ⟨q3, rfl⟩, hu3⟩
      have HU : Hid _ := hu3
      clear hu3
      go_wp2_with fail
      go_roundg m'
      case measure => omega
      case rel => exact ⟨o + i, m', c', q + q3, u3, by omega, hm1', Nat.le_refl _, hmc', hcc', rfl, rfl, by simp [World.drewN], HB2.out, HU.out⟩
    · obtain ⟨x, hx⟩ := (HL.out.drop o).at (i := 0) (by rw [List.length_drop, HN.out]; omega)
      rw [hx] at h0
      have hbx : best lt (s.L.drop o) = .string x := by injection h0 with h0; exact h0.symm
      have HX : Hid (best lt s.L = .string x) := HB.out.trans hbx
      have c0 : (w1.drewN q).cell? ⟨g, o, none⟩ = some (.string x) := by
        rw [List.getElem?_drop] at hx
        have := HA.out (o + 0) _ hx
        rw [Nat.zero_add, Nat.add_zero] at this
        exact this
      clear h0 hbx hx hb HB
      have hpos : (0 : Int) < (m : Int) := by omega
      have hpos3 : 0 < m := by omega
      go_wp2_with fail
      go_ret2
      rw [HX.out]
      exact ⟨rfl, _, rfl⟩
theorem least_anyS (w : World) (B R : Nat) (v : Value) (s : Wd) (h : WinV 9 w B R v s) (hL : StrsV s.L) (hne : s.L ≠ []) :
    Calls Try.prog 20 #[.pointer (some ⟨R, 0, none⟩)] w fun e w' => e = .returned (.tuple #[best ltS s.L, .bool true]) ∧ ∃ q, w' = w.drewN q := by
  go_enter Try.func20, Try.ntmps20
  go_wp2_with fail
  refine (end_anyS 36 ltS (enters_of Try.func36 (by kernel_rfl) rfl) clo_ltS w B R v s h hL hne).mono ?_; rintro e w1 ⟨rfl, q, rfl⟩
  go_wp2_with fail
  go_ret2
  exact ⟨rfl, q, rfl⟩
theorem greatest_anyS (w : World) (B R : Nat) (v : Value) (s : Wd) (h : WinV 9 w B R v s) (hL : StrsV s.L) (hne : s.L ≠ []) :
    Calls Try.prog 21 #[.pointer (some ⟨R, 0, none⟩)] w fun e w' => e = .returned (.tuple #[best gtS s.L, .bool true]) ∧ ∃ q, w' = w.drewN q := by
  go_enter Try.func21, Try.ntmps21
  go_wp2_with fail
  refine (end_anyS 37 gtS (enters_of Try.func37 (by kernel_rfl) rfl) clo_gtS w B R v s h hL hne).mono ?_; rintro e w1 ⟨rfl, q, rfl⟩
  go_wp2_with fail
  go_ret2
  exact ⟨rfl, q, rfl⟩
/-- Of none. -/
theorem end_nilS (F : Nat) (w : World) : Calls Try.prog 35 #[.pointer none, .func (.func F) #[] #[]] w fun e w' => e = .returned (.tuple #[.string ⟨#[]⟩, .bool false]) ∧ w' = w := by
  go_enter Try.func35, Try.ntmps35
  go_wp2_with fail
  refine (wlen_nilS w).mono ?_; rintro e w1 ⟨rfl, rfl⟩
  go_wp2_with fail
  go_ret2
  exact ⟨rfl, rfl⟩
theorem end_noneS (F : Nat) (w : World) (B R : Nat) (v : Value) (s : Wd) (h : WinV 9 w B R v s) (hne : s.L = []) : Calls Try.prog 35 #[.pointer (some ⟨R, 0, none⟩), .func (.func F) #[] #[]] w fun e w' => e = .returned (.tuple #[.string ⟨#[]⟩, .bool false]) ∧ w' = w := by
  have h0 : s.L.length = 0 := by rw [hne]; rfl
  go_enter Try.func35, Try.ntmps35
  go_wp2_with fail
  refine (wlen_anyS w B R v s h).mono ?_; rintro e w1 ⟨rfl, rfl⟩
  rw [h0]
  go_wp2_with fail
  go_ret2
  exact ⟨rfl, rfl⟩
theorem least_nilS (w : World) : Calls Try.prog 20 #[.pointer none] w fun e w' => e = .returned (.tuple #[.string ⟨#[]⟩, .bool false]) ∧ w' = w := by
  go_enter Try.func20, Try.ntmps20
  go_wp2_with fail
  refine (end_nilS _ w).mono ?_; rintro e w1 ⟨rfl, rfl⟩
  go_wp2_with fail
  go_ret2
  exact ⟨rfl, rfl⟩
theorem greatest_nilS (w : World) : Calls Try.prog 21 #[.pointer none] w fun e w' => e = .returned (.tuple #[.string ⟨#[]⟩, .bool false]) ∧ w' = w := by
  go_enter Try.func21, Try.ntmps21
  go_wp2_with fail
  refine (end_nilS _ w).mono ?_; rintro e w1 ⟨rfl, rfl⟩
  go_wp2_with fail
  go_ret2
  exact ⟨rfl, rfl⟩
theorem least_noneS (w : World) (B R : Nat) (v : Value) (s : Wd) (h : WinV 9 w B R v s) (hne : s.L = []) : Calls Try.prog 20 #[.pointer (some ⟨R, 0, none⟩)] w fun e w' => e = .returned (.tuple #[.string ⟨#[]⟩, .bool false]) ∧ w' = w := by
  go_enter Try.func20, Try.ntmps20
  go_wp2_with fail
  refine (end_noneS _ w B R v s h hne).mono ?_; rintro e w1 ⟨rfl, rfl⟩
  go_wp2_with fail
  go_ret2
  exact ⟨rfl, rfl⟩
theorem greatest_noneS (w : World) (B R : Nat) (v : Value) (s : Wd) (h : WinV 9 w B R v s) (hne : s.L = []) : Calls Try.prog 21 #[.pointer (some ⟨R, 0, none⟩)] w fun e w' => e = .returned (.tuple #[.string ⟨#[]⟩, .bool false]) ∧ w' = w := by
  go_enter Try.func21, Try.ntmps21
  go_wp2_with fail
  refine (end_noneS _ w B R v s h hne).mono ?_; rintro e w1 ⟨rfl, rfl⟩
  go_wp2_with fail
  go_ret2
  exact ⟨rfl, rfl⟩
set_option maxHeartbeats 4000000 in
/-- slices.Delete of the first one. -/
theorem wdel_oneS (w : World) (B : Nat) (L : List Value) (hones : StrsV L) (m : Nat) (hn : L.length = m + 1) (g cap : Nat) (hown : OwnL 9 w B (.slice (some ⟨g, 0, none⟩) (m + 1) cap) L) (hl : L.length ≤ 1000) :
    Calls Try.prog 38 #[.slice (some ⟨g, 0, none⟩) (m + 1) cap, .int .i64 0, .int .i64 1] w fun e w' => e = .returned (.slice (some ⟨g, 0, none⟩) m cap) ∧ OwnL 9 w' B (.slice (some ⟨g, 0, none⟩) m cap) L.tail ∧ w.grownBy w' (some g) := by
  have hL : L ≠ [] := by intro h; rw [h] at hn; simp at hn
  obtain ⟨i0, hi0, hz0, hzs, hzb⟩ := info_parts infoWS
  obtain ⟨g', cap', cur, hv, hBg, hg, hc, hm, hcs, htk⟩ := hown.some_ hL
  injection hv with h1 h2 h3; injection h1 with h1; injection h1 with h1 _ _; subst h1; subst h3
  clear h2
  have htl : L.tail.length = m := by rw [List.length_tail]; omega
  have hcell : ∀ j, j < cap → (w.cell? ⟨g, j, none⟩).isSome = true := fun j hj => by
    rw [row_cell hg, Array.getElem?_eq_getElem (by omega)]; rfl
  have hfz : ∀ j, w.frozen? ⟨g, j, none⟩ = false := fun j => row_froz hg j
  obtain ⟨A, hA, hsrc⟩ : ∃ A : Addr, (if cap = 1 then some (⟨g, 0, none⟩ : Addr) else some ⟨g, 1, none⟩) = some A ∧ Hid (∀ t u, L.tail[t]? = some u → w.drew.cell? (A.add t) = some u) := by
    by_cases h : cap = 1
    · refine ⟨⟨g, 0, none⟩, by simp [h], fun t u hu => ?_⟩
      have h0 : L.tail = [] := List.eq_nil_of_length_eq_zero (by omega)
      rw [h0] at hu; simp at hu
    · refine ⟨⟨g, 1, none⟩, by simp [h], fun t u hu => ?_⟩
      rw [Addr.add_lit]
      rw [← List.drop_one, List.getElem?_drop] at hu
      exact rowL_at (w := w) hg hc hcs htk _ _ hu
  have s1 : Hid (L.tail.length = m * 1) := by show L.tail.length = m * 1; omega
  have s2 : Hid (∀ u ∈ L.tail, u.oneCell' = true) := fun u hu => by obtain ⟨x, rfl⟩ := hones u (List.mem_of_mem_tail hu); rfl
  have s3 : Hid (∀ t, t < L.tail.length → (w.drew.cell? ⟨g, 0 + 0 * 1 + t, none⟩).isSome = true ∧ w.drew.frozen? ⟨g, 0 + 0 * 1 + t, none⟩ = false) := fun t ht =>
    ⟨hcell _ (by omega), hfz _⟩
  obtain ⟨W1, hW1⟩ : ∃ W1, w.drew.setCells g (0 + 0 * 1) L.tail = W1 := ⟨_, rfl⟩
  have hW : Hid (w.drew.setCells g (0 + 0 * 1) L.tail = W1) := hW1
  have hcl : ∀ ty c, (Builtin.clear_ #[41] ty #[.slice (some ⟨g, m, none⟩) 1 c]).run Try.prog W1 = .ok (.tuple #[]) (W1.setCells g m (Value.cells (.string ⟨#[]⟩)).toList) := fun ty c =>
    run_clear_one W1 _ _ ty _ Try.underlying41 zeroWS g m c
      (fun j hj => by
        have hj' : j < 1 := hj
        rw [← hW1]; exact isSome_setCells g L.tail (0 + 0 * 1) w.drew (fun t ht => hcell (0 + 0 * 1 + t) (by omega)) (m + j) (hcell (m + j) (by omega)))
      (fun j hj => by rw [← hW1, World.frozen?_setCells]; exact hfz _)
      (fun u hu => by
        have hu' : u ∈ [.string ⟨#[]⟩] := hu
        simp only [List.mem_cons, List.not_mem_nil, or_false] at hu'
        subst hu'; rfl)
  obtain ⟨W2, hW2⟩ : ∃ W2, W1.setCells g m (Value.cells (.string ⟨#[]⟩)).toList = W2 := ⟨_, rfl⟩
  rw [hW2] at hcl
  have FIN : Hid (OwnL 9 W2 B (.slice (some ⟨g, 0, none⟩) m cap) L.tail ∧ w.grownBy W2 (some g)) := by
    refine ⟨?_, ?_⟩
    · have := tail_rowL (w := w.drew) hL hg hBg hm hcs hc W2 W1 hW1.symm W1 rfl (Value.cells (.string ⟨#[]⟩)).toList rfl (by rw [show L.length - 1 = m by omega]; exact hW2.symm)
      rw [show L.length - 1 = m by omega] at this
      exact this
    · rw [← hW2, ← hW1]; exact grown_trans ((grown_drew (grown_refl w _))) (grown_trans (grown_setCells g _ _ _) (grown_setCells g _ _ _))
  have hmc : m + 1 ≤ cap := by omega
  have hm1 : m ≤ 999 := by omega
  have hb1 : ¬ (cap = 0) := by omega
  have hb2 : ¬ (cap = m) := by omega
  have hb3 : (1 : Int) ≤ (m : Int) + 1 := by omega
  have hb4 : 1 ≤ cap := by omega
  have hb5 : m ≤ cap := by omega
  clear hW1 hW2 hcell hfz hg htk hcs hones hi0 hz0 hzs hzb hown hc hl htl hn
  go_enter Try.func38, Try.ntmps38
  obtain ⟨i0, hi0, hz0, hzs, hzb⟩ := info_parts infoWS
  have H0 : Hid (Try.prog.info? 9 = some i0) := hi0
  have H1 : Hid (i0.size = 1) := hzs
  clear hi0 hz0 hzs hzb
  go_wp2_with fail
  go_region_law (refine step_append_room rfl (.tmp 22) (.tmp 25) 41 rfl 9 i0 1 Try.underlying41 H0.out H1.out g 0 0 cap (by simp [Act.eval, Act.put]) A m (cap - 1) L.tail (by simp [Act.eval, Act.put]) s1.out hsrc.out s2.out (by omega) s3.out ?_; rw [hW.out])
  go_wp2_with fail
  go_ret
  exact ⟨rfl, FIN.out⟩
set_option maxHeartbeats 4000000 in
theorem wadd_anyS (w : World) (B R : Nat) (v : Value) (s : Wd) (h : WinV 9 w B R v s) (hL : StrsV s.L) (x : ByteArray) :
    Calls Try.prog 22 #[.pointer (some ⟨R, 0, none⟩), .string x] w fun e w' => ∃ v', e = .returned (.int .i64 0) ∧ WinV 9 w' B R v' (addW s (.string x)) ∧ Chg B R v v' w w' := by
  have HL : Hid (StrsV s.L) := hL
  have hok := h.ok
  have hbr := h.le
  have hrw := h.blk.lt
  obtain ⟨n, hn⟩ : ∃ n, s.L.length = n := ⟨_, rfl⟩
  obtain ⟨M, hM⟩ : ∃ M, s.M = M := ⟨_, rfl⟩
  have hM1 := hok.lo
  have hM64 := hok.hi
  have hnM := hok.len
  have OK : Hid (addW s (.string x)).ok := addW_ok hok _
  rw [hM] at hM1 hM64 hnM
  rw [hn] at hnM
  have HN : Hid (s.L.length = n) := hn
  have HM : Hid (s.M = M) := hM
  obtain ⟨ao, cap, rfl, e1, e2, _⟩ := h.own.form
  rw [hn] at h e1
  rw [hn]
  have H0 : Hid (WinV 9 w B R (.slice ao n cap) s) := h
  have c0 := h.blk.cell 0 _ rfl
  rw [hM] at c0
  have c1 := h.blk.cell 1 _ rfl
  clear h hL hok hn hM
  by_cases hf : n = M
  · subst hf
    obtain ⟨g, hg⟩ : ∃ g, ao = some ⟨g, 0, none⟩ := by
      have hL : s.L ≠ [] := by intro h; have := HN.out; rw [h] at this; simp at this; omega
      obtain ⟨g, _, _, hv, _⟩ := H0.out.own.some_ hL
      injection hv with hv _ _
      exact ⟨g, hv⟩
    subst hg
    obtain ⟨m, rfl⟩ : ∃ m, n = m + 1 := ⟨n - 1, by omega⟩
    have hgR : g ≠ R := fun e => H0.out.ne (by rw [e]; rfl)
    have OW : Hid (OwnL 9 w B (.slice (some ⟨g, 0, none⟩) (m + 1) cap) s.L) := H0.out.own
    have BW : Hid (Blk w R [.int .i64 ((m + 1 : Nat) : Int), .slice (some ⟨g, 0, none⟩) (m + 1) cap]) := by have := H0.out.blk; rw [HM.out] at this; exact this
    have hBg : B ≤ g := (OW.out.lt g rfl).1
    clear H0
    go_enter Try.func22, Try.ntmps22
    go_wp2_with fail
    go_quiet (fail)
    have O1 : Hid (OwnL 9 (w.drewN nq) B (.slice (some ⟨g, 0, none⟩) (m + 1) cap) s.L) := OW.out.drewN nq
    have B1 : Hid (Blk (w.drewN nq) R [.int .i64 ((m + 1 : Nat) : Int), .slice (some ⟨g, 0, none⟩) (m + 1) cap]) := ⟨BW.out.lt, BW.out.all, BW.out.froz⟩
    have C1 : Hid (Chg B R (.slice (some ⟨g, 0, none⟩) (m + 1) cap) (.slice (some ⟨g, 0, none⟩) (m + 1) cap) w (w.drewN nq)) := (Chg.of_below (Below.refl _ _) (by omega)).drewN nq
    have hrw1 : R < (w.drewN nq).heap.size := hrw
    clear OW BW c0 c1 hrw
    generalize w.drewN nq = w1 at O1 B1 C1 hrw1 ⊢
    have c1 := B1.out.cell 1 _ rfl
    go_wp2_with fail
    refine (wdel_oneS w1 B s.L HL.out m HN.out g cap O1.out (by rw [HN.out]; omega)).mono ?_; rintro e w2 ⟨rfl, o2, g2⟩
    have B2 : Blk w2 R [.int .i64 ((m + 1 : Nat) : Int), .slice (some ⟨g, 0, none⟩) (m + 1) cap] := B1.out.grwn g2 (fun e => by have h2 := Option.some.inj e; omega)
    have C2 : Chg B R (.slice (some ⟨g, 0, none⟩) (m + 1) cap) (.slice (some ⟨g, 0, none⟩) m cap) w w2 := C1.out.trans (Chg.of_grown g2 rfl (by omega) (fun k hk => by have h2 : g = k := Option.some.inj hk; omega))
    have O2 : Hid (OwnL 9 w2 B (.slice (some ⟨g, 0, none⟩) m cap) s.L.tail) := o2
    have C3 : Hid (Chg B R (.slice (some ⟨g, 0, none⟩) (m + 1) cap) (.slice (some ⟨g, 0, none⟩) m cap) w (w2.setCell ⟨R, 1, none⟩ (.slice (some ⟨g, 0, none⟩) m cap))) := C2.trans (Chg.set hbr)
    have B3 : Hid (Blk (w2.setCell ⟨R, 1, none⟩ (.slice (some ⟨g, 0, none⟩) m cap)) R [.int .i64 ((m + 1 : Nat) : Int), .slice (some ⟨g, 0, none⟩) m cap]) := B2.set 1 _ (by simp)
    have O3 : Hid (OwnL 9 (w2.setCell ⟨R, 1, none⟩ (.slice (some ⟨g, 0, none⟩) m cap)) B (.slice (some ⟨g, 0, none⟩) m cap) s.L.tail) := O2.out.kept (grown_set w2 R 1 _) (Or.inr (fun e => by have h2 : g = R := Option.some.inj e; omega))
    have c1' := B2.cell 1 _ rfl
    have f1' := B2.froz 1
    have hrw2 := B2.lt
    have NE : Hid (some R ≠ (Value.slice (some ⟨g, 0, none⟩) m cap).ownBlock) := fun e => hgR (Option.some.inj e).symm
    clear c1 o2 g2 B1 O1 C1 O2 C2 B2 e1
    go_upto_region 5 with fail
    generalize w2.setCell ⟨R, 1, none⟩ (.slice (some ⟨g, 0, none⟩) m cap) = w3 at C3 B3 O3 ⊢
    have c3 := B3.out.cell 1 _ rfl
    obtain ⟨W4, hW4⟩ : ∃ W4, w3.alloc (.cells #[.string x] 9) = W4 := ⟨_, rfl⟩
    obtain ⟨x1, x2, x3, x4⟩ := boxA hW4
    have C4 : Chg B R _ _ w W4 := C3.out.trans (Chg.of_below x2 (by have := B3.out.lt; omega))
    have O4 : Hid (OwnL 9 W4 B (.slice (some ⟨g, 0, none⟩) m cap) s.L.tail) := O3.out.below x2
    have B4 := B3.out.low x2 B3.out.lt
    have cx := x1.cell 0 _ rfl
    have hz4 : B ≤ W4.heap.size := by have := B3.out.lt; omega
    have c4 := B4.cell 1 _ rfl
    have HC4 : Hid (Chg B R _ _ w W4) := C4
    have HB4 : Hid (Blk W4 R _) := B4
    obtain ⟨V, hV⟩ : ∃ V, w3.heap.size = V := ⟨_, rfl⟩
    rw [hV] at cx
    clear x1 x2 x3 x4 C3 O3 B3 C4 B4
    go_wp2_with (at_builtin; go_must (refine growL_wp rfl 41 9 (.string ⟨#[]⟩) 16 Try.underlying41 infoWS (by omega) (by omega) rfl _ _ rfl B _ s.L.tail rfl (by exact O4.out) V 0 (.string x) _ rfl (by exact cx) rfl (by have := HN.out; simp; omega) (by exact hz4) ?_); go_must (intro v5 w5 o5 g5); obtain ⟨ao5, cap5, rfl, p5, q5, _⟩ := o5.form; have C5 := HC4.out.trans (Chg.of_grow (R := R) g5); have B5 := HB4.out.grwn g5.by_ NE.out; have c5 := B5.cell 1 _ rfl; have f5 := B5.froz 1; have l5 := B5.lt)
    have hne5 : some R ≠ (Value.slice ao5 (s.L.tail ++ [(.string x : Value)]).length cap5).ownBlock := (Chg.of_grow (R := R) g5).off HB4.out.lt NE.out
    have hl5 : (s.L.tail ++ [(.string x : Value)]).length = (m + 1) := by have := HN.out; simp; omega
    rw [hl5] at o5 hne5 C5 p5
    have hl6 : s.L.length - 1 + 1 = (m + 1) := by have := HN.out; simp; omega
    rw [hl6]
    have HAW : addW s (.string x) = ⟨s.M, s.L.tail ++ [(.string x : Value)]⟩ := by
      unfold addW
      rw [if_pos (by rw [HN.out, HM.out])]
    refine bodyPost_ret (v := .int .i64 0) (by simp [results, Try.results22, go_sem]) rfl ⟨.slice ao5 (m + 1) cap5, rfl, ?_, C5.trans (Chg.set hbr)⟩
    rw [HAW] at OK ⊢
    have hb6 := B5.set 1 (.slice ao5 (m + 1) cap5) (by simp)
    have ho6 := o5.kept (grown_set w5 R 1 (.slice ao5 (m + 1) cap5)) (by
      cases hq : (Value.slice ao5 (m + 1) cap5).ownBlock with
      | none => exact Or.inl rfl
      | some q => exact Or.inr (fun e => hne5 (by rw [hq]; exact e.symm)))
    exact ⟨by show Blk _ R [.int .i64 (s.M : Nat), _]; rw [HM.out]; exact hb6, ho6, OK.out, hne5, hbr⟩
  · have n1 : ((n : Int) == (M : Int)) = false := by simp; omega
    have n2 : ¬ n = M := hf
    have BW : Hid (Blk w R [.int .i64 (M : Int), .slice ao n cap]) := by have := H0.out.blk; rw [HM.out] at this; exact this
    have OW : Hid (OwnL 9 w B (.slice ao n cap) s.L) := H0.out.own
    have NE : Hid (some R ≠ (Value.slice ao n cap).ownBlock) := H0.out.ne
    clear H0
    go_enter Try.func22, Try.ntmps22
    go_wp2_with fail
    go_quiet (fail)
    go_upto_region 5 with fail
    have O3 : Hid (OwnL 9 (w.drewN nq) B (.slice ao n cap) s.L) := OW.out.drewN nq
    have B3 : Hid (Blk (w.drewN nq) R [.int .i64 (M : Int), .slice ao n cap]) := ⟨BW.out.lt, BW.out.all, BW.out.froz⟩
    have C3 : Hid (Chg B R (.slice ao n cap) (.slice ao n cap) w (w.drewN nq)) := (Chg.of_below (Below.refl _ _) (by omega)).drewN nq
    clear OW BW c0 c1 hrw
    generalize w.drewN nq = w3 at O3 B3 C3 ⊢
    have c3 := B3.out.cell 1 _ rfl
    obtain ⟨W4, hW4⟩ : ∃ W4, w3.alloc (.cells #[.string x] 9) = W4 := ⟨_, rfl⟩
    obtain ⟨x1, x2, x3, x4⟩ := boxA hW4
    have C4 : Chg B R _ _ w W4 := C3.out.trans (Chg.of_below x2 (by have := B3.out.lt; omega))
    have O4 : Hid (OwnL 9 W4 B (.slice ao n cap) s.L) := O3.out.below x2
    have B4 := B3.out.low x2 B3.out.lt
    have cx := x1.cell 0 _ rfl
    have hz4 : B ≤ W4.heap.size := by have := B3.out.lt; omega
    have c4 := B4.cell 1 _ rfl
    have HC4 : Hid (Chg B R _ _ w W4) := C4
    have HB4 : Hid (Blk W4 R _) := B4
    obtain ⟨V, hV⟩ : ∃ V, w3.heap.size = V := ⟨_, rfl⟩
    rw [hV] at cx
    clear x1 x2 x3 x4 C3 O3 B3 C4 B4
    go_wp2_with (at_builtin; go_must (refine growL_wp rfl 41 9 (.string ⟨#[]⟩) 16 Try.underlying41 infoWS (by omega) (by omega) rfl _ _ rfl B _ s.L rfl (by exact O4.out) V 0 (.string x) _ rfl (by exact cx) rfl (by have := HN.out; simp; omega) (by exact hz4) ?_); go_must (intro v5 w5 o5 g5); obtain ⟨ao5, cap5, rfl, p5, q5, _⟩ := o5.form; have C5 := HC4.out.trans (Chg.of_grow (R := R) g5); have B5 := HB4.out.grwn g5.by_ NE.out; have c5 := B5.cell 1 _ rfl; have f5 := B5.froz 1; have l5 := B5.lt)
    have hne5 : some R ≠ (Value.slice ao5 (s.L ++ [(.string x : Value)]).length cap5).ownBlock := (Chg.of_grow (R := R) g5).off HB4.out.lt NE.out
    have hl5 : (s.L ++ [(.string x : Value)]).length = (n + 1) := by have := HN.out; simp; omega
    rw [hl5] at o5 hne5 C5 p5
    have hl6 : s.L.length + 1 = (n + 1) := by have := HN.out; simp; omega
    rw [hl6]
    have HAW : addW s (.string x) = ⟨s.M, s.L ++ [(.string x : Value)]⟩ := by
      unfold addW
      rw [if_neg (by rw [HN.out, HM.out]; exact hf)]
    refine bodyPost_ret (v := .int .i64 0) (by simp [results, Try.results22, go_sem]) rfl ⟨.slice ao5 (n + 1) cap5, rfl, ?_, C5.trans (Chg.set hbr)⟩
    rw [HAW] at OK ⊢
    have hb6 := B5.set 1 (.slice ao5 (n + 1) cap5) (by simp)
    have ho6 := o5.kept (grown_set w5 R 1 (.slice ao5 (n + 1) cap5)) (by
      cases hq : (Value.slice ao5 (n + 1) cap5).ownBlock with
      | none => exact Or.inl rfl
      | some q => exact Or.inr (fun e => hne5 (by rw [hq]; exact e.symm)))
    exact ⟨by show Blk _ R [.int .i64 (s.M : Nat), _]; rw [HM.out]; exact hb6, ho6, OK.out, hne5, hbr⟩

theorem infoWI : (Try.prog.info? 3).map (fun i => (i.zero, i.size, i.bytes)) = some (some (.int .i64 0), 1, 8) := by kernel_rfl
theorem zeroWI (w : World) : (zeroValue 3).run Try.prog w = .ok (.int .i64 0) w := by kernel_rfl
theorem wlen_anyI (w : World) (B R : Nat) (v : Value) (s : Wd) (h : WinV 3 w B R v s) :
    Calls Try.prog 46 #[.pointer (some ⟨R, 0, none⟩)] w fun e w' => e = .returned (.int .i64 (s.L.length : Nat)) ∧ w' = w := by
  obtain ⟨ao, cap, rfl, h1, h2, h3⟩ := h.own.form
  have c1 := h.blk.cell 1 _ rfl
  clear h h3
  go_enter Try.func46, Try.ntmps46
  go_wp2_with fail
  go_ret
  exact ⟨rfl, rfl⟩
theorem wlen_nilI (w : World) : Calls Try.prog 46 #[.pointer none] w fun e w' => e = .returned (.int .i64 0) ∧ w' = w := by
  go_enter Try.func46, Try.ntmps46
  go_wp2_with fail
  go_ret
  exact ⟨rfl, rfl⟩
theorem wadd_nilI (w : World) (x : Int) : Calls Try.prog 27 #[.pointer none, .int .i64 x] w fun e w' => e = .returned (.int .i64 1) ∧ w' = w := by
  go_enter Try.func27, Try.ntmps27
  go_wp2_with fail
  go_ret
  exact ⟨rfl, rfl⟩
/-- New. -/
theorem wnew_noI (w : World) (m : Int) (hm : m < 1 ∨ 64 < m) : Calls Try.prog 26 #[.int .i64 m] w fun e w' => e = .returned (.tuple #[.pointer none, .int .i64 3]) ∧ w' = w := by
  by_cases h0 : m < 1
  · have d0 : decide (m < 1) = true := by simpa using h0
    go_enter Try.func26, Try.ntmps26
    go_wp2_with fail
    go_ret2
    exact ⟨rfl, rfl⟩
  · have d0 : decide (m < 1) = false := by simpa using h0
    have d1 : decide (64 < m) = true := by simp; omega
    go_enter Try.func26, Try.ntmps26
    go_wp2_with fail
    go_ret2
    exact ⟨rfl, rfl⟩
theorem wnew_anyI (w : World) (m : Nat) (h1 : 1 ≤ m) (h2 : m ≤ 64) : Calls Try.prog 26 #[.int .i64 (m : Nat)] w fun e w' => e = .returned (.tuple #[.pointer (some ⟨w.heap.size, 0, none⟩), .int .i64 0]) ∧ WinV 3 w' w.heap.size w.heap.size (.slice none 0 0) ⟨m, []⟩ ∧ Below w.heap.size w w' ∧ w'.heap.size = w.heap.size + 1 := by
  have d0 : decide ((m : Int) < 1) = false := by simp; omega
  have d1 : decide ((64 : Int) < (m : Int)) = false := by simp; omega
  go_enter Try.func26, Try.ntmps26
  go_wp2_with fail
  go_ret2
  obtain ⟨W1, hW1⟩ : ∃ W1, w.alloc (.cells #[.int .i64 (m : Nat), .slice none 0 0] 71) = W1 := ⟨_, rfl⟩
  obtain ⟨x1, x2, x3, _⟩ := boxA hW1
  rw [hW1]
  exact ⟨rfl, ⟨x1, OwnL.nil _ _, ⟨h1, h2, by simp⟩, (by simp [Value.ownBlock]), Nat.le_refl _⟩, x2, x3⟩
theorem clo_ltI (w : World) (x y : Int) : Calls Try.prog 42 #[.int .i64 x, .int .i64 y] w fun e w' => e = .returned (.bool (ltI (.int .i64 x) (.int .i64 y))) ∧ w' = w := by
  show Calls Try.prog 42 #[.int .i64 x, .int .i64 y] w fun e w' => e = .returned (.bool (decide (x < y))) ∧ w' = w
  go_enter Try.func42, Try.ntmps42
  go_wp2_with fail
  go_ret
  exact ⟨rfl, rfl⟩
theorem clo_gtI (w : World) (x y : Int) : Calls Try.prog 43 #[.int .i64 x, .int .i64 y] w fun e w' => e = .returned (.bool (gtI (.int .i64 x) (.int .i64 y))) ∧ w' = w := by
  show Calls Try.prog 43 #[.int .i64 x, .int .i64 y] w fun e w' => e = .returned (.bool (decide (y < x))) ∧ w' = w
  go_enter Try.func43, Try.ntmps43
  go_wp2_with fail
  go_ret
  exact ⟨rfl, rfl⟩
set_option maxHeartbeats 4000000 in
theorem behind_anyI (F : Nat) (lt : Value → Value → Bool) (hF : ∀ args u, (callFunc F args).run Try.prog u = .ok (.enter F args) u)
    (hf : ∀ u (x y : Int), Calls Try.prog F #[.int .i64 x, .int .i64 y] u fun e u' => e = .returned (.bool (lt (.int .i64 x) (.int .i64 y))) ∧ u' = u)
    (w : World) (L : List Value) (hL : IntsV L) (n : Nat) (hn : L.length = n) (h1 : 1 ≤ n) (h64 : n ≤ 64) (g o cap : Nat) (hc : n ≤ cap) (hcm : cap ≤ 9223372036854775807)
    (hat : ∀ i u, L[i]? = some u → w.cell? ⟨g, o + i, none⟩ = some u) :
    Calls Try.prog 47 #[.slice (some ⟨g, o, none⟩) n cap, .func (.func F) #[] #[]] w fun e w' =>
      ∃ u, e = .returned u ∧ (∃ q, w' = w.drewN q) ∧ ((∃ i, 1 ≤ i ∧ i < n ∧ u = .slice (some ⟨g, o + i, none⟩) (n - i) (cap - i) ∧ best lt L = best lt (L.drop i)) ∨ (u = .slice none 0 0 ∧ L[0]? = some (best lt L))) := by
  have HL : Hid (IntsV L) := hL
  have HN : Hid (L.length = n) := hn
  have HA : Hid (∀ i u, L[i]? = some u → w.cell? ⟨g, o + i, none⟩ = some u) := hat
  obtain ⟨y, hy⟩ := hL.at (i := 0) (by omega)
  have HY : Hid (L[0]? = some (.int .i64 y)) := hy
  clear hL hn hat hy
  go_enter Try.func47, Try.ntmps47
  go_wp2_with fail
  go_loopg [5] (n - 1) (fun g' i wr => ∃ (k q : Nat), k + g' = n ∧ 1 ≤ k ∧ i = .int .i64 k ∧ wr = w.drewN q ∧ ∀ j, 1 ≤ j → j < k → lt (L.getD j (.int .i64 y)) (.int .i64 y) = false)
  case atStart => exact ⟨1, 0, by omega, by omega, rfl, rfl, fun j h1 h2 => by omega⟩
  case round =>
    obtain ⟨k, q, hk, hk1, rfl, rfl, hj⟩ := hrel
    have HJ : Hid (∀ j, 1 ≤ j → j < k → lt (L.getD j (.int .i64 y)) (.int .i64 y) = false) := hj
    clear hj
    by_cases hkn : k < n
    · obtain ⟨x, hx⟩ := HL.out.at (i := k) (by rw [HN.out]; exact hkn)
      have HX : Hid (L.getD k (.int .i64 y) = .int .i64 x) := by show L.getD k (.int .i64 y) = _; rw [List.getD_eq_getElem?_getD, hx]; rfl
      have c0 : (w.drewN q).cell? ⟨g, o, none⟩ = some (.int .i64 y) := HA.out 0 _ HY.out
      have c1 : (w.drewN q).cell? ⟨g, o + k, none⟩ = some (.int .i64 x) := HA.out k _ hx
      clear hx
      generalize hwr : w.drewN q = wr at c0 c1 ⊢
      have i1 : (0 : Int) ≤ (k : Int) := by omega
      have i2 : (k : Int) < (n : Int) := by omega
      have i3 : (0 : Int) < (n : Int) := by omega
      have i4 : ¬ cap = k := by omega
      have i5 : (k : Int) ≤ (n : Int) := by omega
      have i6 : 0 < n := by omega
      go_wp2_with fail
      go_region_held3 (fun w' => w'.cell? ⟨g, o, none⟩ = some (.int .i64 y) ∧ w'.cell? ⟨g, o + k, none⟩ = some (.int .i64 x)) (first | with_reducible exact ⟨c0, c1⟩ | go_keep) (first | ((with_reducible refine (hf _ x y).mono ?_); rintro e w1 ⟨rfl, rfl⟩))
      cases hlt : lt (.int .i64 x) (.int .i64 y) with
      | true =>
        go_wp2_with fail
        go_ret
        exact ⟨_, rfl, ⟨q + 1, by rw [← hwr]; rfl⟩, Or.inl ⟨k, hk1, hkn, rfl, best_on HY.out hk1 (by rw [HN.out]; exact hkn) HJ.out (by rw [HX.out]; exact hlt)⟩⟩
      | false =>
        go_wp2_with fail
        go_roundg (gk - 1)
        case measure => omega
        case rel => exact ⟨k + 1, q + 1, by omega, by omega, by go_num, by rw [← hwr]; rfl, fun j h1 h2 => by
          rcases Nat.lt_or_eq_of_le (Nat.le_of_lt_succ h2) with h | h
          · exact HJ.out j h1 h
          · rw [h, HX.out]; exact hlt⟩
    · obtain rfl : k = n := by omega
      go_wp2_with fail
      go_ret
      refine ⟨_, rfl, ⟨_, rfl⟩, Or.inr ⟨rfl, ?_⟩⟩
      rw [best_one HY.out (fun j h1 h2 => HJ.out j h1 (by rw [HN.out] at h2; exact h2))]
      exact HY.out
set_option maxHeartbeats 4000000 in
theorem end_anyI (F : Nat) (lt : Value → Value → Bool) (hF : ∀ args u, (callFunc F args).run Try.prog u = .ok (.enter F args) u)
    (hf : ∀ u (x y : Int), Calls Try.prog F #[.int .i64 x, .int .i64 y] u fun e u' => e = .returned (.bool (lt (.int .i64 x) (.int .i64 y))) ∧ u' = u)
    (w : World) (B R : Nat) (v : Value) (s : Wd) (h : WinV 3 w B R v s) (hL : IntsV s.L) (hne : s.L ≠ []) :
    Calls Try.prog 41 #[.pointer (some ⟨R, 0, none⟩), .func (.func F) #[] #[]] w fun e w' => e = .returned (.tuple #[best lt s.L, .bool true]) ∧ ∃ q, w' = w.drewN q := by
  have H0 : Hid (WinV 3 w B R v s) := h
  have HL : Hid (IntsV s.L) := hL
  obtain ⟨g, cap, cur, rfl, hB, hg, hc, hcm, hcs, htk⟩ := h.own.some_ hne
  have hat : ∀ i u, s.L[i]? = some u → w.cell? ⟨g, 0 + i, none⟩ = some u := fun i u hu => by rw [Nat.zero_add]; exact h.own.at rfl hu
  have HA : Hid (∀ i u, s.L[i]? = some u → w.cell? ⟨g, 0 + i, none⟩ = some u) := hat
  have c1 := h.blk.cell 1 _ rfl
  obtain ⟨n, hn⟩ : ∃ n, s.L.length = n := ⟨_, rfl⟩
  have HN : Hid (s.L.length = n) := hn
  have h1 : 1 ≤ n := by have := List.length_pos_iff.2 hne; omega
  have h64 : n ≤ 64 := by have := h.ok.len; have := h.ok.hi; omega
  rw [hn] at hc c1 H0
  clear h hL hat hn hg hcs htk hB hne
  have z1 : ((n : Int) == 0) = false := by simp; omega
  have z2 : decide ((n : Int) = 0) = false := by simp; omega
  have z3 : ¬ n = 0 := by omega
  go_enter Try.func41, Try.ntmps41
  go_wp2_with fail
  refine (wlen_anyI w B R _ s H0.out).mono ?_; rintro e w1 ⟨rfl, rfl⟩
  rw [HN.out]
  clear H0
  go_wp2_with fail
  refine (behind_anyI F lt hF hf w1 s.L HL.out n HN.out h1 h64 g 0 cap hc hcm HA.out).mono ?_; rintro e w2 ⟨u, rfl, ⟨q, rfl⟩, hu⟩
  have HU : Hid _ := hu
  clear hu c1 z1 z2 z3
  go_wp2_with fail
  go_loopg [7, 8] n (fun gh row nx wr => ∃ (o m c q : Nat) (u : Value), o + m = n ∧ 1 ≤ m ∧ m ≤ gh ∧ m ≤ c ∧ c ≤ 9223372036854775807 ∧ row = .slice (some ⟨g, o, none⟩) m c ∧ nx = u ∧ wr = w1.drewN q ∧ best lt s.L = best lt (s.L.drop o) ∧
      ((∃ i, 1 ≤ i ∧ i < m ∧ u = .slice (some ⟨g, o + i, none⟩) (m - i) (c - i) ∧ best lt (s.L.drop o) = best lt ((s.L.drop o).drop i)) ∨ (u = .slice none 0 0 ∧ (s.L.drop o)[0]? = some (best lt (s.L.drop o)))))
  case atStart => exact ⟨0, n, cap, q, u, by omega, h1, Nat.le_refl _, hc, hcm, rfl, rfl, rfl, by rw [List.drop_zero], by rw [List.drop_zero]; exact HU.out⟩
  case round =>
    clear HU
    obtain ⟨o, m, c, q, u, hom, hm1, hmg, hmc, hcc, rfl, rfl, rfl, hb, hu⟩ := hrel
    have HB : Hid (best lt s.L = best lt (s.L.drop o)) := hb
    rcases hu with ⟨i, hi1, him, rfl, hi⟩ | ⟨rfl, h0⟩
    · have HI : Hid (best lt (s.L.drop o) = best lt ((s.L.drop o).drop i)) := hi
      obtain ⟨m', hm'⟩ : ∃ m', m - i = m' := ⟨_, rfl⟩
      obtain ⟨c', hc'⟩ : ∃ c', c - i = c' := ⟨_, rfl⟩
      rw [hm', hc']
      have hm1' : 1 ≤ m' := by omega
      have hpos : (0 : Int) < (m' : Int) := by omega
      have hpos2 : decide ((0 : Int) < (m' : Int)) = true := by simpa using hpos
      have hpos3 : 0 < m' := by omega
      have hmc' : m' ≤ c' := by omega
      have hcc' : c' ≤ 9223372036854775807 := by omega
      have hlen : (s.L.drop (o + i)).length = m' := by rw [List.length_drop, HN.out]; omega
      have HLN : Hid ((s.L.drop (o + i)).length = m') := hlen
      have HA2 : Hid (∀ j y, (s.L.drop (o + i))[j]? = some y → (w1.drewN q).cell? ⟨g, (o + i) + j, none⟩ = some y) := fun j y hy => by
        rw [List.getElem?_drop] at hy
        have := HA.out (o + i + j) y hy
        rw [Nat.zero_add] at this
        exact this
      have HB2 : Hid (best lt s.L = best lt (s.L.drop (o + i))) := by
        show best lt s.L = best lt (s.L.drop (o + i))
        rw [HB.out, HI.out, List.drop_drop]
      clear hb hi hlen
      go_wp2_with fail
      refine (behind_anyI F lt hF hf (w1.drewN q) (s.L.drop (o + i)) (HL.out.drop (o + i)) m' HLN.out hm1' (by omega) g (o + i) c' hmc' hcc' HA2.out).mono ?_; rintro e w3 ⟨u3, rfl, ⟨q3, rfl⟩, hu3⟩
      have HU : Hid _ := hu3
      clear hu3
      go_wp2_with fail
      go_roundg m'
      case measure => omega
      case rel => exact ⟨o + i, m', c', q + q3, u3, by omega, hm1', Nat.le_refl _, hmc', hcc', rfl, rfl, by simp [World.drewN], HB2.out, HU.out⟩
    · obtain ⟨x, hx⟩ := (HL.out.drop o).at (i := 0) (by rw [List.length_drop, HN.out]; omega)
      rw [hx] at h0
      have hbx : best lt (s.L.drop o) = .int .i64 x := by injection h0 with h0; exact h0.symm
      have HX : Hid (best lt s.L = .int .i64 x) := HB.out.trans hbx
      have c0 : (w1.drewN q).cell? ⟨g, o, none⟩ = some (.int .i64 x) := by
        rw [List.getElem?_drop] at hx
        have := HA.out (o + 0) _ hx
        rw [Nat.zero_add, Nat.add_zero] at this
        exact this
      clear h0 hbx hx hb HB
      have hpos : (0 : Int) < (m : Int) := by omega
      have hpos3 : 0 < m := by omega
      go_wp2_with fail
      go_ret2
      rw [HX.out]
      exact ⟨rfl, _, rfl⟩
theorem least_anyI (w : World) (B R : Nat) (v : Value) (s : Wd) (h : WinV 3 w B R v s) (hL : IntsV s.L) (hne : s.L ≠ []) :
    Calls Try.prog 28 #[.pointer (some ⟨R, 0, none⟩)] w fun e w' => e = .returned (.tuple #[best ltI s.L, .bool true]) ∧ ∃ q, w' = w.drewN q := by
  go_enter Try.func28, Try.ntmps28
  go_wp2_with fail
  refine (end_anyI 42 ltI (enters_of Try.func42 (by kernel_rfl) rfl) clo_ltI w B R v s h hL hne).mono ?_; rintro e w1 ⟨rfl, q, rfl⟩
  go_wp2_with fail
  go_ret2
  exact ⟨rfl, q, rfl⟩
theorem greatest_anyI (w : World) (B R : Nat) (v : Value) (s : Wd) (h : WinV 3 w B R v s) (hL : IntsV s.L) (hne : s.L ≠ []) :
    Calls Try.prog 29 #[.pointer (some ⟨R, 0, none⟩)] w fun e w' => e = .returned (.tuple #[best gtI s.L, .bool true]) ∧ ∃ q, w' = w.drewN q := by
  go_enter Try.func29, Try.ntmps29
  go_wp2_with fail
  refine (end_anyI 43 gtI (enters_of Try.func43 (by kernel_rfl) rfl) clo_gtI w B R v s h hL hne).mono ?_; rintro e w1 ⟨rfl, q, rfl⟩
  go_wp2_with fail
  go_ret2
  exact ⟨rfl, q, rfl⟩
/-- Of none. -/
theorem end_nilI (F : Nat) (w : World) : Calls Try.prog 41 #[.pointer none, .func (.func F) #[] #[]] w fun e w' => e = .returned (.tuple #[.int .i64 0, .bool false]) ∧ w' = w := by
  go_enter Try.func41, Try.ntmps41
  go_wp2_with fail
  refine (wlen_nilI w).mono ?_; rintro e w1 ⟨rfl, rfl⟩
  go_wp2_with fail
  go_ret2
  exact ⟨rfl, rfl⟩
theorem end_noneI (F : Nat) (w : World) (B R : Nat) (v : Value) (s : Wd) (h : WinV 3 w B R v s) (hne : s.L = []) : Calls Try.prog 41 #[.pointer (some ⟨R, 0, none⟩), .func (.func F) #[] #[]] w fun e w' => e = .returned (.tuple #[.int .i64 0, .bool false]) ∧ w' = w := by
  have h0 : s.L.length = 0 := by rw [hne]; rfl
  go_enter Try.func41, Try.ntmps41
  go_wp2_with fail
  refine (wlen_anyI w B R v s h).mono ?_; rintro e w1 ⟨rfl, rfl⟩
  rw [h0]
  go_wp2_with fail
  go_ret2
  exact ⟨rfl, rfl⟩
theorem least_nilI (w : World) : Calls Try.prog 28 #[.pointer none] w fun e w' => e = .returned (.tuple #[.int .i64 0, .bool false]) ∧ w' = w := by
  go_enter Try.func28, Try.ntmps28
  go_wp2_with fail
  refine (end_nilI _ w).mono ?_; rintro e w1 ⟨rfl, rfl⟩
  go_wp2_with fail
  go_ret2
  exact ⟨rfl, rfl⟩
theorem greatest_nilI (w : World) : Calls Try.prog 29 #[.pointer none] w fun e w' => e = .returned (.tuple #[.int .i64 0, .bool false]) ∧ w' = w := by
  go_enter Try.func29, Try.ntmps29
  go_wp2_with fail
  refine (end_nilI _ w).mono ?_; rintro e w1 ⟨rfl, rfl⟩
  go_wp2_with fail
  go_ret2
  exact ⟨rfl, rfl⟩
theorem least_noneI (w : World) (B R : Nat) (v : Value) (s : Wd) (h : WinV 3 w B R v s) (hne : s.L = []) : Calls Try.prog 28 #[.pointer (some ⟨R, 0, none⟩)] w fun e w' => e = .returned (.tuple #[.int .i64 0, .bool false]) ∧ w' = w := by
  go_enter Try.func28, Try.ntmps28
  go_wp2_with fail
  refine (end_noneI _ w B R v s h hne).mono ?_; rintro e w1 ⟨rfl, rfl⟩
  go_wp2_with fail
  go_ret2
  exact ⟨rfl, rfl⟩
theorem greatest_noneI (w : World) (B R : Nat) (v : Value) (s : Wd) (h : WinV 3 w B R v s) (hne : s.L = []) : Calls Try.prog 29 #[.pointer (some ⟨R, 0, none⟩)] w fun e w' => e = .returned (.tuple #[.int .i64 0, .bool false]) ∧ w' = w := by
  go_enter Try.func29, Try.ntmps29
  go_wp2_with fail
  refine (end_noneI _ w B R v s h hne).mono ?_; rintro e w1 ⟨rfl, rfl⟩
  go_wp2_with fail
  go_ret2
  exact ⟨rfl, rfl⟩
set_option maxHeartbeats 4000000 in
/-- slices.Delete of the first one. -/
theorem wdel_oneI (w : World) (B : Nat) (L : List Value) (hones : IntsV L) (m : Nat) (hn : L.length = m + 1) (g cap : Nat) (hown : OwnL 3 w B (.slice (some ⟨g, 0, none⟩) (m + 1) cap) L) (hl : L.length ≤ 1000) :
    Calls Try.prog 40 #[.slice (some ⟨g, 0, none⟩) (m + 1) cap, .int .i64 0, .int .i64 1] w fun e w' => e = .returned (.slice (some ⟨g, 0, none⟩) m cap) ∧ OwnL 3 w' B (.slice (some ⟨g, 0, none⟩) m cap) L.tail ∧ w.grownBy w' (some g) := by
  have hL : L ≠ [] := by intro h; rw [h] at hn; simp at hn
  obtain ⟨i0, hi0, hz0, hzs, hzb⟩ := info_parts infoWI
  obtain ⟨g', cap', cur, hv, hBg, hg, hc, hm, hcs, htk⟩ := hown.some_ hL
  injection hv with h1 h2 h3; injection h1 with h1; injection h1 with h1 _ _; subst h1; subst h3
  clear h2
  have htl : L.tail.length = m := by rw [List.length_tail]; omega
  have hcell : ∀ j, j < cap → (w.cell? ⟨g, j, none⟩).isSome = true := fun j hj => by
    rw [row_cell hg, Array.getElem?_eq_getElem (by omega)]; rfl
  have hfz : ∀ j, w.frozen? ⟨g, j, none⟩ = false := fun j => row_froz hg j
  obtain ⟨A, hA, hsrc⟩ : ∃ A : Addr, (if cap = 1 then some (⟨g, 0, none⟩ : Addr) else some ⟨g, 1, none⟩) = some A ∧ Hid (∀ t u, L.tail[t]? = some u → w.drew.cell? (A.add t) = some u) := by
    by_cases h : cap = 1
    · refine ⟨⟨g, 0, none⟩, by simp [h], fun t u hu => ?_⟩
      have h0 : L.tail = [] := List.eq_nil_of_length_eq_zero (by omega)
      rw [h0] at hu; simp at hu
    · refine ⟨⟨g, 1, none⟩, by simp [h], fun t u hu => ?_⟩
      rw [Addr.add_lit]
      rw [← List.drop_one, List.getElem?_drop] at hu
      exact rowL_at (w := w) hg hc hcs htk _ _ hu
  have s1 : Hid (L.tail.length = m * 1) := by show L.tail.length = m * 1; omega
  have s2 : Hid (∀ u ∈ L.tail, u.oneCell' = true) := fun u hu => by obtain ⟨x, rfl⟩ := hones u (List.mem_of_mem_tail hu); rfl
  have s3 : Hid (∀ t, t < L.tail.length → (w.drew.cell? ⟨g, 0 + 0 * 1 + t, none⟩).isSome = true ∧ w.drew.frozen? ⟨g, 0 + 0 * 1 + t, none⟩ = false) := fun t ht =>
    ⟨hcell _ (by omega), hfz _⟩
  obtain ⟨W1, hW1⟩ : ∃ W1, w.drew.setCells g (0 + 0 * 1) L.tail = W1 := ⟨_, rfl⟩
  have hW : Hid (w.drew.setCells g (0 + 0 * 1) L.tail = W1) := hW1
  have hcl : ∀ ty c, (Builtin.clear_ #[69] ty #[.slice (some ⟨g, m, none⟩) 1 c]).run Try.prog W1 = .ok (.tuple #[]) (W1.setCells g m (Value.cells (.int .i64 0)).toList) := fun ty c =>
    run_clear_one W1 _ _ ty _ Try.underlying69 zeroWI g m c
      (fun j hj => by
        have hj' : j < 1 := hj
        rw [← hW1]; exact isSome_setCells g L.tail (0 + 0 * 1) w.drew (fun t ht => hcell (0 + 0 * 1 + t) (by omega)) (m + j) (hcell (m + j) (by omega)))
      (fun j hj => by rw [← hW1, World.frozen?_setCells]; exact hfz _)
      (fun u hu => by
        have hu' : u ∈ [.int .i64 0] := hu
        simp only [List.mem_cons, List.not_mem_nil, or_false] at hu'
        subst hu'; rfl)
  obtain ⟨W2, hW2⟩ : ∃ W2, W1.setCells g m (Value.cells (.int .i64 0)).toList = W2 := ⟨_, rfl⟩
  rw [hW2] at hcl
  have FIN : Hid (OwnL 3 W2 B (.slice (some ⟨g, 0, none⟩) m cap) L.tail ∧ w.grownBy W2 (some g)) := by
    refine ⟨?_, ?_⟩
    · have := tail_rowL (w := w.drew) hL hg hBg hm hcs hc W2 W1 hW1.symm W1 rfl (Value.cells (.int .i64 0)).toList rfl (by rw [show L.length - 1 = m by omega]; exact hW2.symm)
      rw [show L.length - 1 = m by omega] at this
      exact this
    · rw [← hW2, ← hW1]; exact grown_trans ((grown_drew (grown_refl w _))) (grown_trans (grown_setCells g _ _ _) (grown_setCells g _ _ _))
  have hmc : m + 1 ≤ cap := by omega
  have hm1 : m ≤ 999 := by omega
  have hb1 : ¬ (cap = 0) := by omega
  have hb2 : ¬ (cap = m) := by omega
  have hb3 : (1 : Int) ≤ (m : Int) + 1 := by omega
  have hb4 : 1 ≤ cap := by omega
  have hb5 : m ≤ cap := by omega
  clear hW1 hW2 hcell hfz hg htk hcs hones hi0 hz0 hzs hzb hown hc hl htl hn
  go_enter Try.func40, Try.ntmps40
  obtain ⟨i0, hi0, hz0, hzs, hzb⟩ := info_parts infoWI
  have H0 : Hid (Try.prog.info? 3 = some i0) := hi0
  have H1 : Hid (i0.size = 1) := hzs
  clear hi0 hz0 hzs hzb
  go_wp2_with fail
  go_region_law (refine step_append_room rfl (.tmp 22) (.tmp 25) 69 rfl 3 i0 1 Try.underlying69 H0.out H1.out g 0 0 cap (by simp [Act.eval, Act.put]) A m (cap - 1) L.tail (by simp [Act.eval, Act.put]) s1.out hsrc.out s2.out (by omega) s3.out ?_; rw [hW.out])
  go_wp2_with fail
  go_ret
  exact ⟨rfl, FIN.out⟩
set_option maxHeartbeats 4000000 in
theorem wadd_anyI (w : World) (B R : Nat) (v : Value) (s : Wd) (h : WinV 3 w B R v s) (hL : IntsV s.L) (x : Int) :
    Calls Try.prog 27 #[.pointer (some ⟨R, 0, none⟩), .int .i64 x] w fun e w' => ∃ v', e = .returned (.int .i64 0) ∧ WinV 3 w' B R v' (addW s (.int .i64 x)) ∧ Chg B R v v' w w' := by
  have HL : Hid (IntsV s.L) := hL
  have hok := h.ok
  have hbr := h.le
  have hrw := h.blk.lt
  obtain ⟨n, hn⟩ : ∃ n, s.L.length = n := ⟨_, rfl⟩
  obtain ⟨M, hM⟩ : ∃ M, s.M = M := ⟨_, rfl⟩
  have hM1 := hok.lo
  have hM64 := hok.hi
  have hnM := hok.len
  have OK : Hid (addW s (.int .i64 x)).ok := addW_ok hok _
  rw [hM] at hM1 hM64 hnM
  rw [hn] at hnM
  have HN : Hid (s.L.length = n) := hn
  have HM : Hid (s.M = M) := hM
  obtain ⟨ao, cap, rfl, e1, e2, _⟩ := h.own.form
  rw [hn] at h e1
  rw [hn]
  have H0 : Hid (WinV 3 w B R (.slice ao n cap) s) := h
  have c0 := h.blk.cell 0 _ rfl
  rw [hM] at c0
  have c1 := h.blk.cell 1 _ rfl
  clear h hL hok hn hM
  by_cases hf : n = M
  · subst hf
    obtain ⟨g, hg⟩ : ∃ g, ao = some ⟨g, 0, none⟩ := by
      have hL : s.L ≠ [] := by intro h; have := HN.out; rw [h] at this; simp at this; omega
      obtain ⟨g, _, _, hv, _⟩ := H0.out.own.some_ hL
      injection hv with hv _ _
      exact ⟨g, hv⟩
    subst hg
    obtain ⟨m, rfl⟩ : ∃ m, n = m + 1 := ⟨n - 1, by omega⟩
    have hgR : g ≠ R := fun e => H0.out.ne (by rw [e]; rfl)
    have OW : Hid (OwnL 3 w B (.slice (some ⟨g, 0, none⟩) (m + 1) cap) s.L) := H0.out.own
    have BW : Hid (Blk w R [.int .i64 ((m + 1 : Nat) : Int), .slice (some ⟨g, 0, none⟩) (m + 1) cap]) := by have := H0.out.blk; rw [HM.out] at this; exact this
    have hBg : B ≤ g := (OW.out.lt g rfl).1
    clear H0
    go_enter Try.func27, Try.ntmps27
    go_wp2_with fail
    go_quiet (fail)
    have O1 : Hid (OwnL 3 (w.drewN nq) B (.slice (some ⟨g, 0, none⟩) (m + 1) cap) s.L) := OW.out.drewN nq
    have B1 : Hid (Blk (w.drewN nq) R [.int .i64 ((m + 1 : Nat) : Int), .slice (some ⟨g, 0, none⟩) (m + 1) cap]) := ⟨BW.out.lt, BW.out.all, BW.out.froz⟩
    have C1 : Hid (Chg B R (.slice (some ⟨g, 0, none⟩) (m + 1) cap) (.slice (some ⟨g, 0, none⟩) (m + 1) cap) w (w.drewN nq)) := (Chg.of_below (Below.refl _ _) (by omega)).drewN nq
    have hrw1 : R < (w.drewN nq).heap.size := hrw
    clear OW BW c0 c1 hrw
    generalize w.drewN nq = w1 at O1 B1 C1 hrw1 ⊢
    have c1 := B1.out.cell 1 _ rfl
    go_wp2_with fail
    refine (wdel_oneI w1 B s.L HL.out m HN.out g cap O1.out (by rw [HN.out]; omega)).mono ?_; rintro e w2 ⟨rfl, o2, g2⟩
    have B2 : Blk w2 R [.int .i64 ((m + 1 : Nat) : Int), .slice (some ⟨g, 0, none⟩) (m + 1) cap] := B1.out.grwn g2 (fun e => by have h2 := Option.some.inj e; omega)
    have C2 : Chg B R (.slice (some ⟨g, 0, none⟩) (m + 1) cap) (.slice (some ⟨g, 0, none⟩) m cap) w w2 := C1.out.trans (Chg.of_grown g2 rfl (by omega) (fun k hk => by have h2 : g = k := Option.some.inj hk; omega))
    have O2 : Hid (OwnL 3 w2 B (.slice (some ⟨g, 0, none⟩) m cap) s.L.tail) := o2
    have C3 : Hid (Chg B R (.slice (some ⟨g, 0, none⟩) (m + 1) cap) (.slice (some ⟨g, 0, none⟩) m cap) w (w2.setCell ⟨R, 1, none⟩ (.slice (some ⟨g, 0, none⟩) m cap))) := C2.trans (Chg.set hbr)
    have B3 : Hid (Blk (w2.setCell ⟨R, 1, none⟩ (.slice (some ⟨g, 0, none⟩) m cap)) R [.int .i64 ((m + 1 : Nat) : Int), .slice (some ⟨g, 0, none⟩) m cap]) := B2.set 1 _ (by simp)
    have O3 : Hid (OwnL 3 (w2.setCell ⟨R, 1, none⟩ (.slice (some ⟨g, 0, none⟩) m cap)) B (.slice (some ⟨g, 0, none⟩) m cap) s.L.tail) := O2.out.kept (grown_set w2 R 1 _) (Or.inr (fun e => by have h2 : g = R := Option.some.inj e; omega))
    have c1' := B2.cell 1 _ rfl
    have f1' := B2.froz 1
    have hrw2 := B2.lt
    have NE : Hid (some R ≠ (Value.slice (some ⟨g, 0, none⟩) m cap).ownBlock) := fun e => hgR (Option.some.inj e).symm
    clear c1 o2 g2 B1 O1 C1 O2 C2 B2 e1
    go_upto_region 5 with fail
    generalize w2.setCell ⟨R, 1, none⟩ (.slice (some ⟨g, 0, none⟩) m cap) = w3 at C3 B3 O3 ⊢
    have c3 := B3.out.cell 1 _ rfl
    obtain ⟨W4, hW4⟩ : ∃ W4, w3.alloc (.cells #[.int .i64 x] 3) = W4 := ⟨_, rfl⟩
    obtain ⟨x1, x2, x3, x4⟩ := boxA hW4
    have C4 : Chg B R _ _ w W4 := C3.out.trans (Chg.of_below x2 (by have := B3.out.lt; omega))
    have O4 : Hid (OwnL 3 W4 B (.slice (some ⟨g, 0, none⟩) m cap) s.L.tail) := O3.out.below x2
    have B4 := B3.out.low x2 B3.out.lt
    have cx := x1.cell 0 _ rfl
    have hz4 : B ≤ W4.heap.size := by have := B3.out.lt; omega
    have c4 := B4.cell 1 _ rfl
    have HC4 : Hid (Chg B R _ _ w W4) := C4
    have HB4 : Hid (Blk W4 R _) := B4
    obtain ⟨V, hV⟩ : ∃ V, w3.heap.size = V := ⟨_, rfl⟩
    rw [hV] at cx
    clear x1 x2 x3 x4 C3 O3 B3 C4 B4
    go_wp2_with (at_builtin; go_must (refine growL_wp rfl 69 3 (.int .i64 0) 8 Try.underlying69 infoWI (by omega) (by omega) rfl _ _ rfl B _ s.L.tail rfl (by exact O4.out) V 0 (.int .i64 x) _ rfl (by exact cx) rfl (by have := HN.out; simp; omega) (by exact hz4) ?_); go_must (intro v5 w5 o5 g5); obtain ⟨ao5, cap5, rfl, p5, q5, _⟩ := o5.form; have C5 := HC4.out.trans (Chg.of_grow (R := R) g5); have B5 := HB4.out.grwn g5.by_ NE.out; have c5 := B5.cell 1 _ rfl; have f5 := B5.froz 1; have l5 := B5.lt)
    have hne5 : some R ≠ (Value.slice ao5 (s.L.tail ++ [(.int .i64 x : Value)]).length cap5).ownBlock := (Chg.of_grow (R := R) g5).off HB4.out.lt NE.out
    have hl5 : (s.L.tail ++ [(.int .i64 x : Value)]).length = (m + 1) := by have := HN.out; simp; omega
    rw [hl5] at o5 hne5 C5 p5
    have hl6 : s.L.length - 1 + 1 = (m + 1) := by have := HN.out; simp; omega
    rw [hl6]
    have HAW : addW s (.int .i64 x) = ⟨s.M, s.L.tail ++ [(.int .i64 x : Value)]⟩ := by
      unfold addW
      rw [if_pos (by rw [HN.out, HM.out])]
    refine bodyPost_ret (v := .int .i64 0) (by simp [results, Try.results27, go_sem]) rfl ⟨.slice ao5 (m + 1) cap5, rfl, ?_, C5.trans (Chg.set hbr)⟩
    rw [HAW] at OK ⊢
    have hb6 := B5.set 1 (.slice ao5 (m + 1) cap5) (by simp)
    have ho6 := o5.kept (grown_set w5 R 1 (.slice ao5 (m + 1) cap5)) (by
      cases hq : (Value.slice ao5 (m + 1) cap5).ownBlock with
      | none => exact Or.inl rfl
      | some q => exact Or.inr (fun e => hne5 (by rw [hq]; exact e.symm)))
    exact ⟨by show Blk _ R [.int .i64 (s.M : Nat), _]; rw [HM.out]; exact hb6, ho6, OK.out, hne5, hbr⟩
  · have n1 : ((n : Int) == (M : Int)) = false := by simp; omega
    have n2 : ¬ n = M := hf
    have BW : Hid (Blk w R [.int .i64 (M : Int), .slice ao n cap]) := by have := H0.out.blk; rw [HM.out] at this; exact this
    have OW : Hid (OwnL 3 w B (.slice ao n cap) s.L) := H0.out.own
    have NE : Hid (some R ≠ (Value.slice ao n cap).ownBlock) := H0.out.ne
    clear H0
    go_enter Try.func27, Try.ntmps27
    go_wp2_with fail
    go_quiet (fail)
    go_upto_region 5 with fail
    have O3 : Hid (OwnL 3 (w.drewN nq) B (.slice ao n cap) s.L) := OW.out.drewN nq
    have B3 : Hid (Blk (w.drewN nq) R [.int .i64 (M : Int), .slice ao n cap]) := ⟨BW.out.lt, BW.out.all, BW.out.froz⟩
    have C3 : Hid (Chg B R (.slice ao n cap) (.slice ao n cap) w (w.drewN nq)) := (Chg.of_below (Below.refl _ _) (by omega)).drewN nq
    clear OW BW c0 c1 hrw
    generalize w.drewN nq = w3 at O3 B3 C3 ⊢
    have c3 := B3.out.cell 1 _ rfl
    obtain ⟨W4, hW4⟩ : ∃ W4, w3.alloc (.cells #[.int .i64 x] 3) = W4 := ⟨_, rfl⟩
    obtain ⟨x1, x2, x3, x4⟩ := boxA hW4
    have C4 : Chg B R _ _ w W4 := C3.out.trans (Chg.of_below x2 (by have := B3.out.lt; omega))
    have O4 : Hid (OwnL 3 W4 B (.slice ao n cap) s.L) := O3.out.below x2
    have B4 := B3.out.low x2 B3.out.lt
    have cx := x1.cell 0 _ rfl
    have hz4 : B ≤ W4.heap.size := by have := B3.out.lt; omega
    have c4 := B4.cell 1 _ rfl
    have HC4 : Hid (Chg B R _ _ w W4) := C4
    have HB4 : Hid (Blk W4 R _) := B4
    obtain ⟨V, hV⟩ : ∃ V, w3.heap.size = V := ⟨_, rfl⟩
    rw [hV] at cx
    clear x1 x2 x3 x4 C3 O3 B3 C4 B4
    go_wp2_with (at_builtin; go_must (refine growL_wp rfl 69 3 (.int .i64 0) 8 Try.underlying69 infoWI (by omega) (by omega) rfl _ _ rfl B _ s.L rfl (by exact O4.out) V 0 (.int .i64 x) _ rfl (by exact cx) rfl (by have := HN.out; simp; omega) (by exact hz4) ?_); go_must (intro v5 w5 o5 g5); obtain ⟨ao5, cap5, rfl, p5, q5, _⟩ := o5.form; have C5 := HC4.out.trans (Chg.of_grow (R := R) g5); have B5 := HB4.out.grwn g5.by_ NE.out; have c5 := B5.cell 1 _ rfl; have f5 := B5.froz 1; have l5 := B5.lt)
    have hne5 : some R ≠ (Value.slice ao5 (s.L ++ [(.int .i64 x : Value)]).length cap5).ownBlock := (Chg.of_grow (R := R) g5).off HB4.out.lt NE.out
    have hl5 : (s.L ++ [(.int .i64 x : Value)]).length = (n + 1) := by have := HN.out; simp; omega
    rw [hl5] at o5 hne5 C5 p5
    have hl6 : s.L.length + 1 = (n + 1) := by have := HN.out; simp; omega
    rw [hl6]
    have HAW : addW s (.int .i64 x) = ⟨s.M, s.L ++ [(.int .i64 x : Value)]⟩ := by
      unfold addW
      rw [if_neg (by rw [HN.out, HM.out]; exact hf)]
    refine bodyPost_ret (v := .int .i64 0) (by simp [results, Try.results27, go_sem]) rfl ⟨.slice ao5 (n + 1) cap5, rfl, ?_, C5.trans (Chg.set hbr)⟩
    rw [HAW] at OK ⊢
    have hb6 := B5.set 1 (.slice ao5 (n + 1) cap5) (by simp)
    have ho6 := o5.kept (grown_set w5 R 1 (.slice ao5 (n + 1) cap5)) (by
      cases hq : (Value.slice ao5 (n + 1) cap5).ownBlock with
      | none => exact Or.inl rfl
      | some q => exact Or.inr (fun e => hne5 (by rw [hq]; exact e.symm)))
    exact ⟨by show Blk _ R [.int .i64 (s.M : Nat), _]; rw [HM.out]; exact hb6, ho6, OK.out, hne5, hbr⟩

theorem infoWJ : (Try.prog.info? 2).map (fun i => (i.zero, i.size, i.bytes)) = some (some (.int .i64 0), 1, 8) := by kernel_rfl
theorem zeroWJ (w : World) : (zeroValue 2).run Try.prog w = .ok (.int .i64 0) w := by kernel_rfl
theorem wlen_anyJ (w : World) (B R : Nat) (v : Value) (s : Wd) (h : WinV 2 w B R v s) :
    Calls Try.prog 14 #[.pointer (some ⟨R, 0, none⟩)] w fun e w' => e = .returned (.int .i64 (s.L.length : Nat)) ∧ w' = w := by
  obtain ⟨ao, cap, rfl, h1, h2, h3⟩ := h.own.form
  have c1 := h.blk.cell 1 _ rfl
  clear h h3
  go_enter Try.func14, Try.ntmps14
  go_wp2_with fail
  go_ret
  exact ⟨rfl, rfl⟩
theorem wlen_nilJ (w : World) : Calls Try.prog 14 #[.pointer none] w fun e w' => e = .returned (.int .i64 0) ∧ w' = w := by
  go_enter Try.func14, Try.ntmps14
  go_wp2_with fail
  go_ret
  exact ⟨rfl, rfl⟩
theorem wadd_nilJ (w : World) (x : Int) : Calls Try.prog 15 #[.pointer none, .int .i64 x] w fun e w' => e = .returned (.int .i64 1) ∧ w' = w := by
  go_enter Try.func15, Try.ntmps15
  go_wp2_with fail
  go_ret
  exact ⟨rfl, rfl⟩
/-- New. -/
theorem wnew_noJ (w : World) (m : Int) (hm : m < 1 ∨ 64 < m) : Calls Try.prog 9 #[.int .i64 m] w fun e w' => e = .returned (.tuple #[.pointer none, .int .i64 3]) ∧ w' = w := by
  by_cases h0 : m < 1
  · have d0 : decide (m < 1) = true := by simpa using h0
    go_enter Try.func9, Try.ntmps9
    go_wp2_with fail
    go_ret2
    exact ⟨rfl, rfl⟩
  · have d0 : decide (m < 1) = false := by simpa using h0
    have d1 : decide (64 < m) = true := by simp; omega
    go_enter Try.func9, Try.ntmps9
    go_wp2_with fail
    go_ret2
    exact ⟨rfl, rfl⟩
theorem wnew_anyJ (w : World) (m : Nat) (h1 : 1 ≤ m) (h2 : m ≤ 64) : Calls Try.prog 9 #[.int .i64 (m : Nat)] w fun e w' => e = .returned (.tuple #[.pointer (some ⟨w.heap.size, 0, none⟩), .int .i64 0]) ∧ WinV 2 w' w.heap.size w.heap.size (.slice none 0 0) ⟨m, []⟩ ∧ Below w.heap.size w w' ∧ w'.heap.size = w.heap.size + 1 := by
  have d0 : decide ((m : Int) < 1) = false := by simp; omega
  have d1 : decide ((64 : Int) < (m : Int)) = false := by simp; omega
  go_enter Try.func9, Try.ntmps9
  go_wp2_with fail
  go_ret2
  obtain ⟨W1, hW1⟩ : ∃ W1, w.alloc (.cells #[.int .i64 (m : Nat), .slice none 0 0] 51) = W1 := ⟨_, rfl⟩
  obtain ⟨x1, x2, x3, _⟩ := boxA hW1
  rw [hW1]
  exact ⟨rfl, ⟨x1, OwnL.nil _ _, ⟨h1, h2, by simp⟩, (by simp [Value.ownBlock]), Nat.le_refl _⟩, x2, x3⟩
theorem clo_ltJ (w : World) (x y : Int) : Calls Try.prog 31 #[.int .i64 x, .int .i64 y] w fun e w' => e = .returned (.bool (ltI (.int .i64 x) (.int .i64 y))) ∧ w' = w := by
  show Calls Try.prog 31 #[.int .i64 x, .int .i64 y] w fun e w' => e = .returned (.bool (decide (x < y))) ∧ w' = w
  go_enter Try.func31, Try.ntmps31
  go_wp2_with fail
  go_ret
  exact ⟨rfl, rfl⟩
theorem clo_gtJ (w : World) (x y : Int) : Calls Try.prog 32 #[.int .i64 x, .int .i64 y] w fun e w' => e = .returned (.bool (gtI (.int .i64 x) (.int .i64 y))) ∧ w' = w := by
  show Calls Try.prog 32 #[.int .i64 x, .int .i64 y] w fun e w' => e = .returned (.bool (decide (y < x))) ∧ w' = w
  go_enter Try.func32, Try.ntmps32
  go_wp2_with fail
  go_ret
  exact ⟨rfl, rfl⟩
set_option maxHeartbeats 4000000 in
theorem behind_anyJ (F : Nat) (lt : Value → Value → Bool) (hF : ∀ args u, (callFunc F args).run Try.prog u = .ok (.enter F args) u)
    (hf : ∀ u (x y : Int), Calls Try.prog F #[.int .i64 x, .int .i64 y] u fun e u' => e = .returned (.bool (lt (.int .i64 x) (.int .i64 y))) ∧ u' = u)
    (w : World) (L : List Value) (hL : IntsV L) (n : Nat) (hn : L.length = n) (h1 : 1 ≤ n) (h64 : n ≤ 64) (g o cap : Nat) (hc : n ≤ cap) (hcm : cap ≤ 9223372036854775807)
    (hat : ∀ i u, L[i]? = some u → w.cell? ⟨g, o + i, none⟩ = some u) :
    Calls Try.prog 44 #[.slice (some ⟨g, o, none⟩) n cap, .func (.func F) #[] #[]] w fun e w' =>
      ∃ u, e = .returned u ∧ (∃ q, w' = w.drewN q) ∧ ((∃ i, 1 ≤ i ∧ i < n ∧ u = .slice (some ⟨g, o + i, none⟩) (n - i) (cap - i) ∧ best lt L = best lt (L.drop i)) ∨ (u = .slice none 0 0 ∧ L[0]? = some (best lt L))) := by
  have HL : Hid (IntsV L) := hL
  have HN : Hid (L.length = n) := hn
  have HA : Hid (∀ i u, L[i]? = some u → w.cell? ⟨g, o + i, none⟩ = some u) := hat
  obtain ⟨y, hy⟩ := hL.at (i := 0) (by omega)
  have HY : Hid (L[0]? = some (.int .i64 y)) := hy
  clear hL hn hat hy
  go_enter Try.func44, Try.ntmps44
  go_wp2_with fail
  go_loopg [5] (n - 1) (fun g' i wr => ∃ (k q : Nat), k + g' = n ∧ 1 ≤ k ∧ i = .int .i64 k ∧ wr = w.drewN q ∧ ∀ j, 1 ≤ j → j < k → lt (L.getD j (.int .i64 y)) (.int .i64 y) = false)
  case atStart => exact ⟨1, 0, by omega, by omega, rfl, rfl, fun j h1 h2 => by omega⟩
  case round =>
    obtain ⟨k, q, hk, hk1, rfl, rfl, hj⟩ := hrel
    have HJ : Hid (∀ j, 1 ≤ j → j < k → lt (L.getD j (.int .i64 y)) (.int .i64 y) = false) := hj
    clear hj
    by_cases hkn : k < n
    · obtain ⟨x, hx⟩ := HL.out.at (i := k) (by rw [HN.out]; exact hkn)
      have HX : Hid (L.getD k (.int .i64 y) = .int .i64 x) := by show L.getD k (.int .i64 y) = _; rw [List.getD_eq_getElem?_getD, hx]; rfl
      have c0 : (w.drewN q).cell? ⟨g, o, none⟩ = some (.int .i64 y) := HA.out 0 _ HY.out
      have c1 : (w.drewN q).cell? ⟨g, o + k, none⟩ = some (.int .i64 x) := HA.out k _ hx
      clear hx
      generalize hwr : w.drewN q = wr at c0 c1 ⊢
      have i1 : (0 : Int) ≤ (k : Int) := by omega
      have i2 : (k : Int) < (n : Int) := by omega
      have i3 : (0 : Int) < (n : Int) := by omega
      have i4 : ¬ cap = k := by omega
      have i5 : (k : Int) ≤ (n : Int) := by omega
      have i6 : 0 < n := by omega
      go_wp2_with fail
      go_region_held3 (fun w' => w'.cell? ⟨g, o, none⟩ = some (.int .i64 y) ∧ w'.cell? ⟨g, o + k, none⟩ = some (.int .i64 x)) (first | with_reducible exact ⟨c0, c1⟩ | go_keep) (first | ((with_reducible refine (hf _ x y).mono ?_); rintro e w1 ⟨rfl, rfl⟩))
      cases hlt : lt (.int .i64 x) (.int .i64 y) with
      | true =>
        go_wp2_with fail
        go_ret
        exact ⟨_, rfl, ⟨q + 1, by rw [← hwr]; rfl⟩, Or.inl ⟨k, hk1, hkn, rfl, best_on HY.out hk1 (by rw [HN.out]; exact hkn) HJ.out (by rw [HX.out]; exact hlt)⟩⟩
      | false =>
        go_wp2_with fail
        go_roundg (gk - 1)
        case measure => omega
        case rel => exact ⟨k + 1, q + 1, by omega, by omega, by go_num, by rw [← hwr]; rfl, fun j h1 h2 => by
          rcases Nat.lt_or_eq_of_le (Nat.le_of_lt_succ h2) with h | h
          · exact HJ.out j h1 h
          · rw [h, HX.out]; exact hlt⟩
    · obtain rfl : k = n := by omega
      go_wp2_with fail
      go_ret
      refine ⟨_, rfl, ⟨_, rfl⟩, Or.inr ⟨rfl, ?_⟩⟩
      rw [best_one HY.out (fun j h1 h2 => HJ.out j h1 (by rw [HN.out] at h2; exact h2))]
      exact HY.out
set_option maxHeartbeats 4000000 in
theorem end_anyJ (F : Nat) (lt : Value → Value → Bool) (hF : ∀ args u, (callFunc F args).run Try.prog u = .ok (.enter F args) u)
    (hf : ∀ u (x y : Int), Calls Try.prog F #[.int .i64 x, .int .i64 y] u fun e u' => e = .returned (.bool (lt (.int .i64 x) (.int .i64 y))) ∧ u' = u)
    (w : World) (B R : Nat) (v : Value) (s : Wd) (h : WinV 2 w B R v s) (hL : IntsV s.L) (hne : s.L ≠ []) :
    Calls Try.prog 30 #[.pointer (some ⟨R, 0, none⟩), .func (.func F) #[] #[]] w fun e w' => e = .returned (.tuple #[best lt s.L, .bool true]) ∧ ∃ q, w' = w.drewN q := by
  have H0 : Hid (WinV 2 w B R v s) := h
  have HL : Hid (IntsV s.L) := hL
  obtain ⟨g, cap, cur, rfl, hB, hg, hc, hcm, hcs, htk⟩ := h.own.some_ hne
  have hat : ∀ i u, s.L[i]? = some u → w.cell? ⟨g, 0 + i, none⟩ = some u := fun i u hu => by rw [Nat.zero_add]; exact h.own.at rfl hu
  have HA : Hid (∀ i u, s.L[i]? = some u → w.cell? ⟨g, 0 + i, none⟩ = some u) := hat
  have c1 := h.blk.cell 1 _ rfl
  obtain ⟨n, hn⟩ : ∃ n, s.L.length = n := ⟨_, rfl⟩
  have HN : Hid (s.L.length = n) := hn
  have h1 : 1 ≤ n := by have := List.length_pos_iff.2 hne; omega
  have h64 : n ≤ 64 := by have := h.ok.len; have := h.ok.hi; omega
  rw [hn] at hc c1 H0
  clear h hL hat hn hg hcs htk hB hne
  have z1 : ((n : Int) == 0) = false := by simp; omega
  have z2 : decide ((n : Int) = 0) = false := by simp; omega
  have z3 : ¬ n = 0 := by omega
  go_enter Try.func30, Try.ntmps30
  go_wp2_with fail
  refine (wlen_anyJ w B R _ s H0.out).mono ?_; rintro e w1 ⟨rfl, rfl⟩
  rw [HN.out]
  clear H0
  go_wp2_with fail
  refine (behind_anyJ F lt hF hf w1 s.L HL.out n HN.out h1 h64 g 0 cap hc hcm HA.out).mono ?_; rintro e w2 ⟨u, rfl, ⟨q, rfl⟩, hu⟩
  have HU : Hid _ := hu
  clear hu c1 z1 z2 z3
  go_wp2_with fail
  go_loopg [7, 8] n (fun gh row nx wr => ∃ (o m c q : Nat) (u : Value), o + m = n ∧ 1 ≤ m ∧ m ≤ gh ∧ m ≤ c ∧ c ≤ 9223372036854775807 ∧ row = .slice (some ⟨g, o, none⟩) m c ∧ nx = u ∧ wr = w1.drewN q ∧ best lt s.L = best lt (s.L.drop o) ∧
      ((∃ i, 1 ≤ i ∧ i < m ∧ u = .slice (some ⟨g, o + i, none⟩) (m - i) (c - i) ∧ best lt (s.L.drop o) = best lt ((s.L.drop o).drop i)) ∨ (u = .slice none 0 0 ∧ (s.L.drop o)[0]? = some (best lt (s.L.drop o)))))
  case atStart => exact ⟨0, n, cap, q, u, by omega, h1, Nat.le_refl _, hc, hcm, rfl, rfl, rfl, by rw [List.drop_zero], by rw [List.drop_zero]; exact HU.out⟩
  case round =>
    clear HU
    obtain ⟨o, m, c, q, u, hom, hm1, hmg, hmc, hcc, rfl, rfl, rfl, hb, hu⟩ := hrel
    have HB : Hid (best lt s.L = best lt (s.L.drop o)) := hb
    rcases hu with ⟨i, hi1, him, rfl, hi⟩ | ⟨rfl, h0⟩
    · have HI : Hid (best lt (s.L.drop o) = best lt ((s.L.drop o).drop i)) := hi
      obtain ⟨m', hm'⟩ : ∃ m', m - i = m' := ⟨_, rfl⟩
      obtain ⟨c', hc'⟩ : ∃ c', c - i = c' := ⟨_, rfl⟩
      rw [hm', hc']
      have hm1' : 1 ≤ m' := by omega
      have hpos : (0 : Int) < (m' : Int) := by omega
      have hpos2 : decide ((0 : Int) < (m' : Int)) = true := by simpa using hpos
      have hpos3 : 0 < m' := by omega
      have hmc' : m' ≤ c' := by omega
      have hcc' : c' ≤ 9223372036854775807 := by omega
      have hlen : (s.L.drop (o + i)).length = m' := by rw [List.length_drop, HN.out]; omega
      have HLN : Hid ((s.L.drop (o + i)).length = m') := hlen
      have HA2 : Hid (∀ j y, (s.L.drop (o + i))[j]? = some y → (w1.drewN q).cell? ⟨g, (o + i) + j, none⟩ = some y) := fun j y hy => by
        rw [List.getElem?_drop] at hy
        have := HA.out (o + i + j) y hy
        rw [Nat.zero_add] at this
        exact this
      have HB2 : Hid (best lt s.L = best lt (s.L.drop (o + i))) := by
        show best lt s.L = best lt (s.L.drop (o + i))
        rw [HB.out, HI.out, List.drop_drop]
      clear hb hi hlen
      go_wp2_with fail
      refine (behind_anyJ F lt hF hf (w1.drewN q) (s.L.drop (o + i)) (HL.out.drop (o + i)) m' HLN.out hm1' (by omega) g (o + i) c' hmc' hcc' HA2.out).mono ?_; rintro e w3 ⟨u3, rfl, ⟨q3, rfl⟩, hu3⟩
      have HU : Hid _ := hu3
      clear hu3
      go_wp2_with fail
      go_roundg m'
      case measure => omega
      case rel => exact ⟨o + i, m', c', q + q3, u3, by omega, hm1', Nat.le_refl _, hmc', hcc', rfl, rfl, by simp [World.drewN], HB2.out, HU.out⟩
    · obtain ⟨x, hx⟩ := (HL.out.drop o).at (i := 0) (by rw [List.length_drop, HN.out]; omega)
      rw [hx] at h0
      have hbx : best lt (s.L.drop o) = .int .i64 x := by injection h0 with h0; exact h0.symm
      have HX : Hid (best lt s.L = .int .i64 x) := HB.out.trans hbx
      have c0 : (w1.drewN q).cell? ⟨g, o, none⟩ = some (.int .i64 x) := by
        rw [List.getElem?_drop] at hx
        have := HA.out (o + 0) _ hx
        rw [Nat.zero_add, Nat.add_zero] at this
        exact this
      clear h0 hbx hx hb HB
      have hpos : (0 : Int) < (m : Int) := by omega
      have hpos3 : 0 < m := by omega
      go_wp2_with fail
      go_ret2
      rw [HX.out]
      exact ⟨rfl, _, rfl⟩
theorem least_anyJ (w : World) (B R : Nat) (v : Value) (s : Wd) (h : WinV 2 w B R v s) (hL : IntsV s.L) (hne : s.L ≠ []) :
    Calls Try.prog 12 #[.pointer (some ⟨R, 0, none⟩)] w fun e w' => e = .returned (.tuple #[best ltI s.L, .bool true]) ∧ ∃ q, w' = w.drewN q := by
  go_enter Try.func12, Try.ntmps12
  go_wp2_with fail
  refine (end_anyJ 31 ltI (enters_of Try.func31 (by kernel_rfl) rfl) clo_ltJ w B R v s h hL hne).mono ?_; rintro e w1 ⟨rfl, q, rfl⟩
  go_wp2_with fail
  go_ret2
  exact ⟨rfl, q, rfl⟩
theorem greatest_anyJ (w : World) (B R : Nat) (v : Value) (s : Wd) (h : WinV 2 w B R v s) (hL : IntsV s.L) (hne : s.L ≠ []) :
    Calls Try.prog 13 #[.pointer (some ⟨R, 0, none⟩)] w fun e w' => e = .returned (.tuple #[best gtI s.L, .bool true]) ∧ ∃ q, w' = w.drewN q := by
  go_enter Try.func13, Try.ntmps13
  go_wp2_with fail
  refine (end_anyJ 32 gtI (enters_of Try.func32 (by kernel_rfl) rfl) clo_gtJ w B R v s h hL hne).mono ?_; rintro e w1 ⟨rfl, q, rfl⟩
  go_wp2_with fail
  go_ret2
  exact ⟨rfl, q, rfl⟩
/-- Of none. -/
theorem end_nilJ (F : Nat) (w : World) : Calls Try.prog 30 #[.pointer none, .func (.func F) #[] #[]] w fun e w' => e = .returned (.tuple #[.int .i64 0, .bool false]) ∧ w' = w := by
  go_enter Try.func30, Try.ntmps30
  go_wp2_with fail
  refine (wlen_nilJ w).mono ?_; rintro e w1 ⟨rfl, rfl⟩
  go_wp2_with fail
  go_ret2
  exact ⟨rfl, rfl⟩
theorem end_noneJ (F : Nat) (w : World) (B R : Nat) (v : Value) (s : Wd) (h : WinV 2 w B R v s) (hne : s.L = []) : Calls Try.prog 30 #[.pointer (some ⟨R, 0, none⟩), .func (.func F) #[] #[]] w fun e w' => e = .returned (.tuple #[.int .i64 0, .bool false]) ∧ w' = w := by
  have h0 : s.L.length = 0 := by rw [hne]; rfl
  go_enter Try.func30, Try.ntmps30
  go_wp2_with fail
  refine (wlen_anyJ w B R v s h).mono ?_; rintro e w1 ⟨rfl, rfl⟩
  rw [h0]
  go_wp2_with fail
  go_ret2
  exact ⟨rfl, rfl⟩
theorem least_nilJ (w : World) : Calls Try.prog 12 #[.pointer none] w fun e w' => e = .returned (.tuple #[.int .i64 0, .bool false]) ∧ w' = w := by
  go_enter Try.func12, Try.ntmps12
  go_wp2_with fail
  refine (end_nilJ _ w).mono ?_; rintro e w1 ⟨rfl, rfl⟩
  go_wp2_with fail
  go_ret2
  exact ⟨rfl, rfl⟩
theorem greatest_nilJ (w : World) : Calls Try.prog 13 #[.pointer none] w fun e w' => e = .returned (.tuple #[.int .i64 0, .bool false]) ∧ w' = w := by
  go_enter Try.func13, Try.ntmps13
  go_wp2_with fail
  refine (end_nilJ _ w).mono ?_; rintro e w1 ⟨rfl, rfl⟩
  go_wp2_with fail
  go_ret2
  exact ⟨rfl, rfl⟩
theorem least_noneJ (w : World) (B R : Nat) (v : Value) (s : Wd) (h : WinV 2 w B R v s) (hne : s.L = []) : Calls Try.prog 12 #[.pointer (some ⟨R, 0, none⟩)] w fun e w' => e = .returned (.tuple #[.int .i64 0, .bool false]) ∧ w' = w := by
  go_enter Try.func12, Try.ntmps12
  go_wp2_with fail
  refine (end_noneJ _ w B R v s h hne).mono ?_; rintro e w1 ⟨rfl, rfl⟩
  go_wp2_with fail
  go_ret2
  exact ⟨rfl, rfl⟩
theorem greatest_noneJ (w : World) (B R : Nat) (v : Value) (s : Wd) (h : WinV 2 w B R v s) (hne : s.L = []) : Calls Try.prog 13 #[.pointer (some ⟨R, 0, none⟩)] w fun e w' => e = .returned (.tuple #[.int .i64 0, .bool false]) ∧ w' = w := by
  go_enter Try.func13, Try.ntmps13
  go_wp2_with fail
  refine (end_noneJ _ w B R v s h hne).mono ?_; rintro e w1 ⟨rfl, rfl⟩
  go_wp2_with fail
  go_ret2
  exact ⟨rfl, rfl⟩
set_option maxHeartbeats 4000000 in
/-- slices.Delete of the first one. -/
theorem wdel_oneJ (w : World) (B : Nat) (L : List Value) (hones : IntsV L) (m : Nat) (hn : L.length = m + 1) (g cap : Nat) (hown : OwnL 2 w B (.slice (some ⟨g, 0, none⟩) (m + 1) cap) L) (hl : L.length ≤ 1000) :
    Calls Try.prog 33 #[.slice (some ⟨g, 0, none⟩) (m + 1) cap, .int .i64 0, .int .i64 1] w fun e w' => e = .returned (.slice (some ⟨g, 0, none⟩) m cap) ∧ OwnL 2 w' B (.slice (some ⟨g, 0, none⟩) m cap) L.tail ∧ w.grownBy w' (some g) := by
  have hL : L ≠ [] := by intro h; rw [h] at hn; simp at hn
  obtain ⟨i0, hi0, hz0, hzs, hzb⟩ := info_parts infoWJ
  obtain ⟨g', cap', cur, hv, hBg, hg, hc, hm, hcs, htk⟩ := hown.some_ hL
  injection hv with h1 h2 h3; injection h1 with h1; injection h1 with h1 _ _; subst h1; subst h3
  clear h2
  have htl : L.tail.length = m := by rw [List.length_tail]; omega
  have hcell : ∀ j, j < cap → (w.cell? ⟨g, j, none⟩).isSome = true := fun j hj => by
    rw [row_cell hg, Array.getElem?_eq_getElem (by omega)]; rfl
  have hfz : ∀ j, w.frozen? ⟨g, j, none⟩ = false := fun j => row_froz hg j
  obtain ⟨A, hA, hsrc⟩ : ∃ A : Addr, (if cap = 1 then some (⟨g, 0, none⟩ : Addr) else some ⟨g, 1, none⟩) = some A ∧ Hid (∀ t u, L.tail[t]? = some u → w.drew.cell? (A.add t) = some u) := by
    by_cases h : cap = 1
    · refine ⟨⟨g, 0, none⟩, by simp [h], fun t u hu => ?_⟩
      have h0 : L.tail = [] := List.eq_nil_of_length_eq_zero (by omega)
      rw [h0] at hu; simp at hu
    · refine ⟨⟨g, 1, none⟩, by simp [h], fun t u hu => ?_⟩
      rw [Addr.add_lit]
      rw [← List.drop_one, List.getElem?_drop] at hu
      exact rowL_at (w := w) hg hc hcs htk _ _ hu
  have s1 : Hid (L.tail.length = m * 1) := by show L.tail.length = m * 1; omega
  have s2 : Hid (∀ u ∈ L.tail, u.oneCell' = true) := fun u hu => by obtain ⟨x, rfl⟩ := hones u (List.mem_of_mem_tail hu); rfl
  have s3 : Hid (∀ t, t < L.tail.length → (w.drew.cell? ⟨g, 0 + 0 * 1 + t, none⟩).isSome = true ∧ w.drew.frozen? ⟨g, 0 + 0 * 1 + t, none⟩ = false) := fun t ht =>
    ⟨hcell _ (by omega), hfz _⟩
  obtain ⟨W1, hW1⟩ : ∃ W1, w.drew.setCells g (0 + 0 * 1) L.tail = W1 := ⟨_, rfl⟩
  have hW : Hid (w.drew.setCells g (0 + 0 * 1) L.tail = W1) := hW1
  have hcl : ∀ ty c, (Builtin.clear_ #[22] ty #[.slice (some ⟨g, m, none⟩) 1 c]).run Try.prog W1 = .ok (.tuple #[]) (W1.setCells g m (Value.cells (.int .i64 0)).toList) := fun ty c =>
    run_clear_one W1 _ _ ty _ Try.underlying22 zeroWJ g m c
      (fun j hj => by
        have hj' : j < 1 := hj
        rw [← hW1]; exact isSome_setCells g L.tail (0 + 0 * 1) w.drew (fun t ht => hcell (0 + 0 * 1 + t) (by omega)) (m + j) (hcell (m + j) (by omega)))
      (fun j hj => by rw [← hW1, World.frozen?_setCells]; exact hfz _)
      (fun u hu => by
        have hu' : u ∈ [.int .i64 0] := hu
        simp only [List.mem_cons, List.not_mem_nil, or_false] at hu'
        subst hu'; rfl)
  obtain ⟨W2, hW2⟩ : ∃ W2, W1.setCells g m (Value.cells (.int .i64 0)).toList = W2 := ⟨_, rfl⟩
  rw [hW2] at hcl
  have FIN : Hid (OwnL 2 W2 B (.slice (some ⟨g, 0, none⟩) m cap) L.tail ∧ w.grownBy W2 (some g)) := by
    refine ⟨?_, ?_⟩
    · have := tail_rowL (w := w.drew) hL hg hBg hm hcs hc W2 W1 hW1.symm W1 rfl (Value.cells (.int .i64 0)).toList rfl (by rw [show L.length - 1 = m by omega]; exact hW2.symm)
      rw [show L.length - 1 = m by omega] at this
      exact this
    · rw [← hW2, ← hW1]; exact grown_trans ((grown_drew (grown_refl w _))) (grown_trans (grown_setCells g _ _ _) (grown_setCells g _ _ _))
  have hmc : m + 1 ≤ cap := by omega
  have hm1 : m ≤ 999 := by omega
  have hb1 : ¬ (cap = 0) := by omega
  have hb2 : ¬ (cap = m) := by omega
  have hb3 : (1 : Int) ≤ (m : Int) + 1 := by omega
  have hb4 : 1 ≤ cap := by omega
  have hb5 : m ≤ cap := by omega
  clear hW1 hW2 hcell hfz hg htk hcs hones hi0 hz0 hzs hzb hown hc hl htl hn
  go_enter Try.func33, Try.ntmps33
  obtain ⟨i0, hi0, hz0, hzs, hzb⟩ := info_parts infoWJ
  have H0 : Hid (Try.prog.info? 2 = some i0) := hi0
  have H1 : Hid (i0.size = 1) := hzs
  clear hi0 hz0 hzs hzb
  go_wp2_with fail
  go_region_law (refine step_append_room rfl (.tmp 22) (.tmp 25) 22 rfl 2 i0 1 Try.underlying22 H0.out H1.out g 0 0 cap (by simp [Act.eval, Act.put]) A m (cap - 1) L.tail (by simp [Act.eval, Act.put]) s1.out hsrc.out s2.out (by omega) s3.out ?_; rw [hW.out])
  go_wp2_with fail
  go_ret
  exact ⟨rfl, FIN.out⟩
set_option maxHeartbeats 4000000 in
theorem wadd_anyJ (w : World) (B R : Nat) (v : Value) (s : Wd) (h : WinV 2 w B R v s) (hL : IntsV s.L) (x : Int) :
    Calls Try.prog 15 #[.pointer (some ⟨R, 0, none⟩), .int .i64 x] w fun e w' => ∃ v', e = .returned (.int .i64 0) ∧ WinV 2 w' B R v' (addW s (.int .i64 x)) ∧ Chg B R v v' w w' := by
  have HL : Hid (IntsV s.L) := hL
  have hok := h.ok
  have hbr := h.le
  have hrw := h.blk.lt
  obtain ⟨n, hn⟩ : ∃ n, s.L.length = n := ⟨_, rfl⟩
  obtain ⟨M, hM⟩ : ∃ M, s.M = M := ⟨_, rfl⟩
  have hM1 := hok.lo
  have hM64 := hok.hi
  have hnM := hok.len
  have OK : Hid (addW s (.int .i64 x)).ok := addW_ok hok _
  rw [hM] at hM1 hM64 hnM
  rw [hn] at hnM
  have HN : Hid (s.L.length = n) := hn
  have HM : Hid (s.M = M) := hM
  obtain ⟨ao, cap, rfl, e1, e2, _⟩ := h.own.form
  rw [hn] at h e1
  rw [hn]
  have H0 : Hid (WinV 2 w B R (.slice ao n cap) s) := h
  have c0 := h.blk.cell 0 _ rfl
  rw [hM] at c0
  have c1 := h.blk.cell 1 _ rfl
  clear h hL hok hn hM
  by_cases hf : n = M
  · subst hf
    obtain ⟨g, hg⟩ : ∃ g, ao = some ⟨g, 0, none⟩ := by
      have hL : s.L ≠ [] := by intro h; have := HN.out; rw [h] at this; simp at this; omega
      obtain ⟨g, _, _, hv, _⟩ := H0.out.own.some_ hL
      injection hv with hv _ _
      exact ⟨g, hv⟩
    subst hg
    obtain ⟨m, rfl⟩ : ∃ m, n = m + 1 := ⟨n - 1, by omega⟩
    have hgR : g ≠ R := fun e => H0.out.ne (by rw [e]; rfl)
    have OW : Hid (OwnL 2 w B (.slice (some ⟨g, 0, none⟩) (m + 1) cap) s.L) := H0.out.own
    have BW : Hid (Blk w R [.int .i64 ((m + 1 : Nat) : Int), .slice (some ⟨g, 0, none⟩) (m + 1) cap]) := by have := H0.out.blk; rw [HM.out] at this; exact this
    have hBg : B ≤ g := (OW.out.lt g rfl).1
    clear H0
    go_enter Try.func15, Try.ntmps15
    go_wp2_with fail
    go_quiet (fail)
    have O1 : Hid (OwnL 2 (w.drewN nq) B (.slice (some ⟨g, 0, none⟩) (m + 1) cap) s.L) := OW.out.drewN nq
    have B1 : Hid (Blk (w.drewN nq) R [.int .i64 ((m + 1 : Nat) : Int), .slice (some ⟨g, 0, none⟩) (m + 1) cap]) := ⟨BW.out.lt, BW.out.all, BW.out.froz⟩
    have C1 : Hid (Chg B R (.slice (some ⟨g, 0, none⟩) (m + 1) cap) (.slice (some ⟨g, 0, none⟩) (m + 1) cap) w (w.drewN nq)) := (Chg.of_below (Below.refl _ _) (by omega)).drewN nq
    have hrw1 : R < (w.drewN nq).heap.size := hrw
    clear OW BW c0 c1 hrw
    generalize w.drewN nq = w1 at O1 B1 C1 hrw1 ⊢
    have c1 := B1.out.cell 1 _ rfl
    go_wp2_with fail
    refine (wdel_oneJ w1 B s.L HL.out m HN.out g cap O1.out (by rw [HN.out]; omega)).mono ?_; rintro e w2 ⟨rfl, o2, g2⟩
    have B2 : Blk w2 R [.int .i64 ((m + 1 : Nat) : Int), .slice (some ⟨g, 0, none⟩) (m + 1) cap] := B1.out.grwn g2 (fun e => by have h2 := Option.some.inj e; omega)
    have C2 : Chg B R (.slice (some ⟨g, 0, none⟩) (m + 1) cap) (.slice (some ⟨g, 0, none⟩) m cap) w w2 := C1.out.trans (Chg.of_grown g2 rfl (by omega) (fun k hk => by have h2 : g = k := Option.some.inj hk; omega))
    have O2 : Hid (OwnL 2 w2 B (.slice (some ⟨g, 0, none⟩) m cap) s.L.tail) := o2
    have C3 : Hid (Chg B R (.slice (some ⟨g, 0, none⟩) (m + 1) cap) (.slice (some ⟨g, 0, none⟩) m cap) w (w2.setCell ⟨R, 1, none⟩ (.slice (some ⟨g, 0, none⟩) m cap))) := C2.trans (Chg.set hbr)
    have B3 : Hid (Blk (w2.setCell ⟨R, 1, none⟩ (.slice (some ⟨g, 0, none⟩) m cap)) R [.int .i64 ((m + 1 : Nat) : Int), .slice (some ⟨g, 0, none⟩) m cap]) := B2.set 1 _ (by simp)
    have O3 : Hid (OwnL 2 (w2.setCell ⟨R, 1, none⟩ (.slice (some ⟨g, 0, none⟩) m cap)) B (.slice (some ⟨g, 0, none⟩) m cap) s.L.tail) := O2.out.kept (grown_set w2 R 1 _) (Or.inr (fun e => by have h2 : g = R := Option.some.inj e; omega))
    have c1' := B2.cell 1 _ rfl
    have f1' := B2.froz 1
    have hrw2 := B2.lt
    have NE : Hid (some R ≠ (Value.slice (some ⟨g, 0, none⟩) m cap).ownBlock) := fun e => hgR (Option.some.inj e).symm
    clear c1 o2 g2 B1 O1 C1 O2 C2 B2 e1
    go_upto_region 5 with fail
    generalize w2.setCell ⟨R, 1, none⟩ (.slice (some ⟨g, 0, none⟩) m cap) = w3 at C3 B3 O3 ⊢
    have c3 := B3.out.cell 1 _ rfl
    obtain ⟨W4, hW4⟩ : ∃ W4, w3.alloc (.cells #[.int .i64 x] 2) = W4 := ⟨_, rfl⟩
    obtain ⟨x1, x2, x3, x4⟩ := boxA hW4
    have C4 : Chg B R _ _ w W4 := C3.out.trans (Chg.of_below x2 (by have := B3.out.lt; omega))
    have O4 : Hid (OwnL 2 W4 B (.slice (some ⟨g, 0, none⟩) m cap) s.L.tail) := O3.out.below x2
    have B4 := B3.out.low x2 B3.out.lt
    have cx := x1.cell 0 _ rfl
    have hz4 : B ≤ W4.heap.size := by have := B3.out.lt; omega
    have c4 := B4.cell 1 _ rfl
    have HC4 : Hid (Chg B R _ _ w W4) := C4
    have HB4 : Hid (Blk W4 R _) := B4
    obtain ⟨V, hV⟩ : ∃ V, w3.heap.size = V := ⟨_, rfl⟩
    rw [hV] at cx
    clear x1 x2 x3 x4 C3 O3 B3 C4 B4
    go_wp2_with (at_builtin; go_must (refine growL_wp rfl 22 2 (.int .i64 0) 8 Try.underlying22 infoWJ (by omega) (by omega) rfl _ _ rfl B _ s.L.tail rfl (by exact O4.out) V 0 (.int .i64 x) _ rfl (by exact cx) rfl (by have := HN.out; simp; omega) (by exact hz4) ?_); go_must (intro v5 w5 o5 g5); obtain ⟨ao5, cap5, rfl, p5, q5, _⟩ := o5.form; have C5 := HC4.out.trans (Chg.of_grow (R := R) g5); have B5 := HB4.out.grwn g5.by_ NE.out; have c5 := B5.cell 1 _ rfl; have f5 := B5.froz 1; have l5 := B5.lt)
    have hne5 : some R ≠ (Value.slice ao5 (s.L.tail ++ [(.int .i64 x : Value)]).length cap5).ownBlock := (Chg.of_grow (R := R) g5).off HB4.out.lt NE.out
    have hl5 : (s.L.tail ++ [(.int .i64 x : Value)]).length = (m + 1) := by have := HN.out; simp; omega
    rw [hl5] at o5 hne5 C5 p5
    have hl6 : s.L.length - 1 + 1 = (m + 1) := by have := HN.out; simp; omega
    rw [hl6]
    have HAW : addW s (.int .i64 x) = ⟨s.M, s.L.tail ++ [(.int .i64 x : Value)]⟩ := by
      unfold addW
      rw [if_pos (by rw [HN.out, HM.out])]
    refine bodyPost_ret (v := .int .i64 0) (by simp [results, Try.results15, go_sem]) rfl ⟨.slice ao5 (m + 1) cap5, rfl, ?_, C5.trans (Chg.set hbr)⟩
    rw [HAW] at OK ⊢
    have hb6 := B5.set 1 (.slice ao5 (m + 1) cap5) (by simp)
    have ho6 := o5.kept (grown_set w5 R 1 (.slice ao5 (m + 1) cap5)) (by
      cases hq : (Value.slice ao5 (m + 1) cap5).ownBlock with
      | none => exact Or.inl rfl
      | some q => exact Or.inr (fun e => hne5 (by rw [hq]; exact e.symm)))
    exact ⟨by show Blk _ R [.int .i64 (s.M : Nat), _]; rw [HM.out]; exact hb6, ho6, OK.out, hne5, hbr⟩
  · have n1 : ((n : Int) == (M : Int)) = false := by simp; omega
    have n2 : ¬ n = M := hf
    have BW : Hid (Blk w R [.int .i64 (M : Int), .slice ao n cap]) := by have := H0.out.blk; rw [HM.out] at this; exact this
    have OW : Hid (OwnL 2 w B (.slice ao n cap) s.L) := H0.out.own
    have NE : Hid (some R ≠ (Value.slice ao n cap).ownBlock) := H0.out.ne
    clear H0
    go_enter Try.func15, Try.ntmps15
    go_wp2_with fail
    go_quiet (fail)
    go_upto_region 5 with fail
    have O3 : Hid (OwnL 2 (w.drewN nq) B (.slice ao n cap) s.L) := OW.out.drewN nq
    have B3 : Hid (Blk (w.drewN nq) R [.int .i64 (M : Int), .slice ao n cap]) := ⟨BW.out.lt, BW.out.all, BW.out.froz⟩
    have C3 : Hid (Chg B R (.slice ao n cap) (.slice ao n cap) w (w.drewN nq)) := (Chg.of_below (Below.refl _ _) (by omega)).drewN nq
    clear OW BW c0 c1 hrw
    generalize w.drewN nq = w3 at O3 B3 C3 ⊢
    have c3 := B3.out.cell 1 _ rfl
    obtain ⟨W4, hW4⟩ : ∃ W4, w3.alloc (.cells #[.int .i64 x] 2) = W4 := ⟨_, rfl⟩
    obtain ⟨x1, x2, x3, x4⟩ := boxA hW4
    have C4 : Chg B R _ _ w W4 := C3.out.trans (Chg.of_below x2 (by have := B3.out.lt; omega))
    have O4 : Hid (OwnL 2 W4 B (.slice ao n cap) s.L) := O3.out.below x2
    have B4 := B3.out.low x2 B3.out.lt
    have cx := x1.cell 0 _ rfl
    have hz4 : B ≤ W4.heap.size := by have := B3.out.lt; omega
    have c4 := B4.cell 1 _ rfl
    have HC4 : Hid (Chg B R _ _ w W4) := C4
    have HB4 : Hid (Blk W4 R _) := B4
    obtain ⟨V, hV⟩ : ∃ V, w3.heap.size = V := ⟨_, rfl⟩
    rw [hV] at cx
    clear x1 x2 x3 x4 C3 O3 B3 C4 B4
    go_wp2_with (at_builtin; go_must (refine growL_wp rfl 22 2 (.int .i64 0) 8 Try.underlying22 infoWJ (by omega) (by omega) rfl _ _ rfl B _ s.L rfl (by exact O4.out) V 0 (.int .i64 x) _ rfl (by exact cx) rfl (by have := HN.out; simp; omega) (by exact hz4) ?_); go_must (intro v5 w5 o5 g5); obtain ⟨ao5, cap5, rfl, p5, q5, _⟩ := o5.form; have C5 := HC4.out.trans (Chg.of_grow (R := R) g5); have B5 := HB4.out.grwn g5.by_ NE.out; have c5 := B5.cell 1 _ rfl; have f5 := B5.froz 1; have l5 := B5.lt)
    have hne5 : some R ≠ (Value.slice ao5 (s.L ++ [(.int .i64 x : Value)]).length cap5).ownBlock := (Chg.of_grow (R := R) g5).off HB4.out.lt NE.out
    have hl5 : (s.L ++ [(.int .i64 x : Value)]).length = (n + 1) := by have := HN.out; simp; omega
    rw [hl5] at o5 hne5 C5 p5
    have hl6 : s.L.length + 1 = (n + 1) := by have := HN.out; simp; omega
    rw [hl6]
    have HAW : addW s (.int .i64 x) = ⟨s.M, s.L ++ [(.int .i64 x : Value)]⟩ := by
      unfold addW
      rw [if_neg (by rw [HN.out, HM.out]; exact hf)]
    refine bodyPost_ret (v := .int .i64 0) (by simp [results, Try.results15, go_sem]) rfl ⟨.slice ao5 (n + 1) cap5, rfl, ?_, C5.trans (Chg.set hbr)⟩
    rw [HAW] at OK ⊢
    have hb6 := B5.set 1 (.slice ao5 (n + 1) cap5) (by simp)
    have ho6 := o5.kept (grown_set w5 R 1 (.slice ao5 (n + 1) cap5)) (by
      cases hq : (Value.slice ao5 (n + 1) cap5).ownBlock with
      | none => exact Or.inl rfl
      | some q => exact Or.inr (fun e => hne5 (by rw [hq]; exact e.symm)))
    exact ⟨by show Blk _ R [.int .i64 (s.M : Nat), _]; rw [HM.out]; exact hb6, ho6, OK.out, hne5, hbr⟩
end Go.Proofs.Ythkffclligcdnaa
