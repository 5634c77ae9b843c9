/-
  Texts Dl5, Dl6, Dl7, Ly1, Dl8 in one.
-/
import Derived.Maps.AppendAt
import Derived.Test.YtlpdhglibgnkoaaGreatRows
import Derived.Shelf.SlSortCmp.NoneTotal
import Derived.Sort.OwnSorted
import Derived.Test.YtlpdhglibgnkoaaGreatP21
namespace Go.Proofs.YtlpdhglibgnkoaaGreat
open Go.RowKit
set_option linter.unusedVariables false
set_option maxRecDepth 8000

@[reducible] def snV (t m : Int) (v : Value) : Value := .agg #[.int .i64 t, .int .i64 m, v]
def preE (A : Nat → En) (k : Nat) : List En := (List.range k).map A
theorem preE_succ (A : Nat → En) (k : Nat) : preE A (k + 1) = preE A k ++ [A k] := by unfold preE; rw [List.range_succ, List.map_append]; rfl
theorem preE_len (A : Nat → En) (k : Nat) : (preE A k).length = k := by unfold preE; simp
theorem preE_split (A : Nat → En) {k n : Nat} (h : k < n) : ∃ rs, preE A n = preE A k ++ A k :: rs := by
  obtain ⟨d, rfl⟩ : ∃ d, n = k + 1 + d := ⟨n - (k + 1), by omega⟩
  induction d with
  | zero => exact ⟨[], preE_succ A k⟩
  | succ d ih =>
    obtain ⟨rs, e⟩ := ih (by omega)
    exact ⟨rs ++ [A (k + 1 + d)], by rw [show k + 1 + (d + 1) = k + 1 + d + 1 by omega, preE_succ, e]; simp⟩
def lastE : Int → List En → Int
  | last, [] => last
  | _, e :: L => lastE e.i L
theorem lastE_snoc : ∀ (L : List En) (a : Int) (e : En), lastE a (L ++ [e]) = e.i
  | [], _, _ => rfl
  | x :: L, _, e => lastE_snoc L x.i e
theorem rise_snoc : ∀ {L : List En} {a : Int} {e : En}, rise a L → lastE a L < e.i → e.i ≤ 65535 → rise a (L ++ [e])
  | [], _, _, _, h1, h2 => ⟨h1, h2, trivial⟩
  | x :: L, _, e, h, h1, h2 => ⟨h.1, h.2.1, rise_snoc h.2.2 h1 h2⟩
theorem ids_three : ∀ {L : List En} {a : Int} {e : En} {R : List En}, -1 ≤ a → rise a L → (e.i < 0 ∨ 65535 < e.i) → idsE a (L ++ e :: R) = 3
  | [], a, e, R, _, _, h => by show (if e.i < 0 ∨ 65535 < e.i then _ else _) = _; rw [if_pos h]
  | x :: L, a, e, R, ha, hr, h => by
    have h1 := hr.1
    have h2 := hr.2.1
    show (if x.i < 0 ∨ 65535 < x.i then _ else if x.i ≤ a then _ else _) = _
    rw [if_neg (by omega), if_neg (by omega)]
    exact ids_three (by omega) hr.2.2 h
theorem ids_ten : ∀ {L : List En} {a : Int} {e : En} {R : List En}, -1 ≤ a → rise a L → ¬ (e.i < 0 ∨ 65535 < e.i) → e.i ≤ lastE a L → idsE a (L ++ e :: R) = 10
  | [], a, e, R, _, _, h, h3 => by show (if e.i < 0 ∨ 65535 < e.i then _ else if e.i ≤ a then _ else _) = _; rw [if_neg h, if_pos (show e.i ≤ a from h3)]
  | x :: L, a, e, R, ha, hr, h, h3 => by
    have h1 := hr.1
    have h2 := hr.2.1
    show (if x.i < 0 ∨ 65535 < x.i then _ else if x.i ≤ a then _ else _) = _
    rw [if_neg (by omega), if_neg (by omega)]
    exact ids_ten (by omega) hr.2.2 h h3
theorem lastE_bd : ∀ {L : List En} {a : Int}, -1 ≤ a → a ≤ 65535 → rise a L → -1 ≤ lastE a L ∧ lastE a L ≤ 65535
  | [], _, h0, h1, _ => ⟨h0, h1⟩
  | x :: L, a, h0, h1, h => lastE_bd (a := x.i) (by have := h.1; omega) h.2.1 h.2.2
/-- What Check says of the entities, one by one. -/
theorem ids_steps (A : Nat → En) (n : Nat) (E : Int) (hE : idsE (-1) (preE A n) = E) :
    (∀ k, k < n → rise (-1) (preE A k) → ((A k).i < 0 ∨ 65535 < (A k).i) → E = 3) ∧
    (∀ k, k < n → rise (-1) (preE A k) → ¬ ((A k).i < 0 ∨ 65535 < (A k).i) → (A k).i ≤ lastE (-1) (preE A k) → E = 10) ∧
    (∀ k, k < n → rise (-1) (preE A k) → ¬ ((A k).i < 0 ∨ 65535 < (A k).i) → ¬ (A k).i ≤ lastE (-1) (preE A k) → rise (-1) (preE A (k + 1)) ∧ lastE (-1) (preE A (k + 1)) = (A k).i) ∧
    (rise (-1) (preE A n) → E = 0) := by
  refine ⟨fun k hk hr h => ?_, fun k hk hr h h2 => ?_, fun k hk hr h h2 => ?_, fun hr => ?_⟩
  · obtain ⟨R, e⟩ := preE_split A hk
    rw [← hE, e]; exact ids_three (by omega) hr h
  · obtain ⟨R, e⟩ := preE_split A hk
    rw [← hE, e]; exact ids_ten (by omega) hr h h2
  · rw [preE_succ]
    exact ⟨rise_snoc hr (by omega) (by omega), lastE_snoc _ _ _⟩
  · rw [← hE]; exact (ids_rise _ (-1) (by omega)).2 hr
theorem rdE_at {w : World} {ao : Option Addr} {n cap : Nat} {A : Nat → En} (h : RdE w (.slice ao n cap) n A) {k : Nat} (hk : k < n) : ∃ b o, ao = some ⟨b, o, none⟩ ∧ b < w.heap.size ∧ ∀ j x, (entC (A k))[j]? = some x → w.cell? ⟨b, o + k * 9 + j, none⟩ = some x := by
  obtain ⟨ao', cap', e, _, _, h3⟩ := h
  injection e with e1 e2 e3
  subst e1 e3
  obtain ⟨b', o, rfl, hcell⟩ := h3.resolve_left (by omega)
  exact ⟨b', o, rfl, World.block_lt_of_cell? w _ (hcell k hk 0 _ rfl), hcell k hk⟩
theorem RdE.drewN {w : World} {v : Value} {n : Nat} {A : Nat → En} (h : RdE w v n A) (N : Nat) : RdE (w.drewN N) v n A := h
set_option maxHeartbeats 1000000 in
theorem sn_check (w : World) (t m : Int) (v : Value) (n : Nat) (A : Nat → En) (hv : RdE w v n A) :
    Calls Tryz.prog 49 #[snV t m v] w fun e w' => e = .returned (.int .i64 (snE t m (preE A n))) ∧ Below w.heap.size w w' := by
  have HR : Hid (RdE w v n A) := hv
  obtain ⟨E, hE⟩ : ∃ E, snE t m (preE A n) = E := ⟨_, rfl⟩
  have HT : Hid (t < 0 ∨ 4294967295 < t ∨ m < -2305843009213693952 ∨ 2305843009213693952 < m → E = 3) := fun h => by
    rw [← hE]; unfold snE; rw [if_pos]
    rcases h with h | h | h | h
    · exact Or.inl h
    · exact Or.inr (Or.inl h)
    · refine Or.inr (Or.inr ?_); unfold timB; simp; omega
    · refine Or.inr (Or.inr ?_); unfold timB; simp; omega
  have HN : ¬ (t < 0 ∨ 4294967295 < t ∨ m < -2305843009213693952 ∨ 2305843009213693952 < m) → E = if 64 < n then 4 else idsE (-1) (preE A n) := fun h => by
    rw [← hE]; unfold snE; rw [if_neg, preE_len]
    intro h'
    rcases h' with h' | h' | h'
    · omega
    · omega
    · unfold timB at h'; simp at h'; omega
  rw [hE]
  clear hE
  obtain ⟨ao, cap, rfl, hc, hm, _⟩ := hv
  have B0 : ∀ c T, Below w.heap.size w (w.alloc (.cells c T)) := fun c T => (Below.refl _ _).alloc (Nat.le_refl _) _
  by_cases h1 : t < 0
  · have e := HT.out (Or.inl h1)
    subst e
    clear HT HN HR
    go_enter Tryz.func49, Tryz.ntmps49
    go_wp2_with fail
    go_ret
    exact ⟨rfl, B0 _ _⟩
  by_cases h2 : 4294967295 < t
  · have e := HT.out (Or.inr (Or.inl h2))
    subst e
    clear HT HN HR
    go_enter Tryz.func49, Tryz.ntmps49
    go_wp2_with fail
    go_ret
    exact ⟨rfl, B0 _ _⟩
  by_cases h3 : m < -2305843009213693952
  · have e := HT.out (Or.inr (Or.inr (Or.inl h3)))
    subst e
    clear HT HN HR
    go_enter Tryz.func49, Tryz.ntmps49
    go_wp2_with fail
    go_ret
    exact ⟨rfl, B0 _ _⟩
  by_cases h4 : 2305843009213693952 < m
  · have e := HT.out (Or.inr (Or.inr (Or.inr h4)))
    subst e
    clear HT HN HR
    go_enter Tryz.func49, Tryz.ntmps49
    go_wp2_with fail
    go_ret
    exact ⟨rfl, B0 _ _⟩
  have e := HN (by omega)
  clear HT HN
  by_cases h5 : 64 < n
  · rw [if_pos h5] at e
    subst e
    clear HR
    go_enter Tryz.func49, Tryz.ntmps49
    go_wp2_with fail
    go_ret
    exact ⟨rfl, B0 _ _⟩
  rw [if_neg h5] at e
  obtain ⟨s1, s2, s3, s4⟩ := ids_steps A n E e.symm
  have S1 : Hid (∀ k, k < n → rise (-1) (preE A k) → ((A k).i < 0 ∨ 65535 < (A k).i) → E = 3) := s1
  have S2 : Hid (∀ k, k < n → rise (-1) (preE A k) → ¬ ((A k).i < 0 ∨ 65535 < (A k).i) → (A k).i ≤ lastE (-1) (preE A k) → E = 10) := s2
  have S3 : Hid (∀ k, k < n → rise (-1) (preE A k) → ¬ ((A k).i < 0 ∨ 65535 < (A k).i) → ¬ (A k).i ≤ lastE (-1) (preE A k) → rise (-1) (preE A (k + 1)) ∧ lastE (-1) (preE A (k + 1)) = (A k).i) := s3
  have S4 : Hid (rise (-1) (preE A n) → E = 0) := s4
  clear e s1 s2 s3 s4
  go_enter Tryz.func49, Tryz.ntmps49
  go_wp2_with fail
  generalize hW : w.alloc (.cells #[.int .i64 t, .int .i64 m, .slice ao n cap] 45) = W
  obtain ⟨A0, b0, _⟩ := boxed hW
  clear hW A0 B0
  have R0 : Hid (RdE W (.slice ao n cap) n A) := HR.out.below b0
  clear HR
  go_loopw [3, 33] (fun lv i wr => ∃ k : Nat, k ≤ n ∧ i = .int .i64 k ∧ rise (-1) (preE A k) ∧ lv = .int .i64 (lastE (-1) (preE A k)) ∧ RdE wr (.slice ao n cap) n A ∧ Below w.heap.size w wr) (fun _ i _ => n - (intOf i).toNat)
  case atStart => exact ⟨0, by omega, rfl, trivial, rfl, R0.out, b0⟩
  case round =>
    obtain ⟨k, hk, rfl, q1, rfl, q3, q4⟩ := hrel
    have Q3 : Hid (RdE wr (.slice ao n cap) n A) := q3
    have Q1 : Hid (rise (-1) (preE A k)) := q1
    have LB := lastE_bd (a := -1) (by omega) (by omega) q1
    by_cases hlt : k < n
    · obtain ⟨g1, o1, e1, l1, c1⟩ := rdE_at q3 hlt
      have T1 := S1.out k hlt q1
      have T2 := S2.out k hlt q1
      have T3 := S3.out k hlt q1
      obtain ⟨r, hr⟩ : ∃ r, A k = r := ⟨_, rfl⟩
      obtain ⟨ls, hls⟩ : ∃ x, lastE (-1) (preE A k) = x := ⟨_, rfl⟩
      rw [hr] at T1 T2 T3 c1
      rw [hls] at T2 T3 LB
      rw [hls]
      obtain ⟨lb0, lb1⟩ := LB
      have U1 : Hid (r.i < 0 ∨ 65535 < r.i → E = 3) := T1
      have U2 : Hid (¬ (r.i < 0 ∨ 65535 < r.i) → r.i ≤ ls → E = 10) := T2
      have U3 : Hid (¬ (r.i < 0 ∨ 65535 < r.i) → ¬ r.i ≤ ls → rise (-1) (preE A (k + 1)) ∧ lastE (-1) (preE A (k + 1)) = r.i) := fun h h' => T3 h (by omega)
      subst e1
      have x0 := c1 0 _ rfl
      have x1 := c1 1 _ rfl
      have x2 := c1 2 _ rfl
      have x3 := c1 3 _ rfl
      have x4 := c1 4 _ rfl
      have x5 := c1 5 _ rfl
      have x6 := c1 6 _ rfl
      have x7 := c1 7 _ rfl
      have x8 := c1 8 _ rfl
      simp only [Nat.add_zero] at x0
      clear c1 q1 q3 hls hr T1 T2 T3 S1 S2 S3 S4
      obtain ⟨r0, r1, r2, r3, r4, r5, r6, r7, r8⟩ := r
      simp only at U1 U2 U3
      by_cases g1 : r0 < 0
      · have e := U1.out (Or.inl g1)
        subst e
        clear U1 U2 U3
        go_wp2_with fail
        go_ret
        exact ⟨rfl, q4.alloc q4.size _⟩
      by_cases g2 : 65535 < r0
      · have e := U1.out (Or.inr g2)
        subst e
        clear U1 U2 U3
        go_wp2_with fail
        go_ret
        exact ⟨rfl, q4.alloc q4.size _⟩
      by_cases g3 : r0 ≤ ls
      · have e := U2.out (by omega) g3
        subst e
        clear U1 U2 U3
        go_wp2_with fail
        go_ret
        exact ⟨rfl, q4.alloc q4.size _⟩
      have E3 : Hid (rise (-1) (preE A (k + 1)) ∧ lastE (-1) (preE A (k + 1)) = r0) := U3.out (by omega) g3
      clear U1 U2 U3
      go_wp2_with fail
      go_roundw
      case rel => exact ⟨k + 1, by omega, by go_num, E3.out.1, by rw [E3.out.2], Q3.out.below ((Below.refl _ _).alloc (Nat.le_refl _) _), q4.alloc q4.size _⟩
      case measure => simp [intOf]; omega
    · obtain rfl : k = n := by omega
      have e := S4.out q1
      subst e
      clear S1 S2 S3 S4 q1 q3
      go_wp2_with fail
      go_ret
      exact ⟨rfl, q4⟩
end Go.Proofs.YtlpdhglibgnkoaaGreat

namespace Go.Proofs.YtlpdhglibgnkoaaGreat
open Go.RowKit
set_option linter.unusedVariables false
set_option maxRecDepth 8000

def chR (o : Bool) (x y : En) : Rc := if o = true then difR x y else putR y
def chB (o : Bool) (x y : En) : Bool := !o || !entB x y
end Go.Proofs.YtlpdhglibgnkoaaGreat

namespace Go.Proofs.YtlpdhglibgnkoaaGreat
open Go.RowKit
set_option linter.unusedVariables false
set_option maxRecDepth 8000

theorem gby {w W w' : World} {b : Nat} (h1 : Below w.heap.size w W) (h2 : W.grownBy w' (some b)) : w.grownBy w' (some b) := ((below_by h1).but _).trans h2
theorem ins_last : ∀ {L : List En} {a : Int} {e : En}, rise a (L ++ [e]) → ins e L = L ++ [e]
  | [], _, _, _ => rfl
  | x :: L, a, e, h => by
    have h1 := (rise_lt h.2.2 e (by simp)).1
    show (if x.i < e.i then _ else _) = _
    rw [if_pos h1, ins_last h.2.2]; rfl
theorem rise_left : ∀ {L R : List En} {a : Int}, rise a (L ++ R) → rise a L
  | [], _, _, _ => trivial
  | x :: L, R, a, h => ⟨h.1, h.2.1, rise_left h.2.2⟩
theorem pre_ins {A : Nat → En} {n : Nat} (h : rise (-1) (preE A n)) {k : Nat} (hk : k < n) : ins (A k) (preE A k) = preE A (k + 1) ∧ 0 ≤ (A k).i ∧ (A k).i ≤ 65535 := by
  obtain ⟨R, e⟩ := preE_split A hk
  have h1 : rise (-1) (preE A (k + 1)) := by
    rw [preE_succ]
    refine rise_left (R := R) ?_
    rw [List.append_assoc]
    have := h
    rw [e] at this
    exact this
  have h2 := h1
  rw [preE_succ] at h2
  have h3 := rise_lt h2 (A k) (by simp)
  exact ⟨by rw [ins_last h2, preE_succ], by omega, h3.2⟩
section
variable {w : World} {ops : Array Oper} {rest : List Oper} {o : Oper} {a : Act} {Q : Exit → Act → World → Prop}
theorem lookE_yes (hg : o.guard = none) (m x : Operand) (hop : o.op = Op.lookup 104 m x true) (b : Nat) (M : List En) (hm : a.eval m = .map (some b)) (h : MapE w b M) (k : Int) (hx : a.eval x = .int .i64 k) (hk : S64 k) (e : En) (hf : findE k M = some e)
    (hK : wpList Tryz.prog ops Q rest (a.put o.dst (.tuple #[entV e, .bool true])) w) : wpList Tryz.prog ops Q (o :: rest) a w := by
  refine lookE_wp hg m x hop b M hm h k hx hk ?_
  rw [hf]; exact hK
theorem lookE_no (hg : o.guard = none) (m x : Operand) (hop : o.op = Op.lookup 104 m x true) (b : Nat) (M : List En) (hm : a.eval m = .map (some b)) (h : MapE w b M) (k : Int) (hx : a.eval x = .int .i64 k) (hk : S64 k) (hf : findE k M = none)
    (hK : wpList Tryz.prog ops Q rest (a.put o.dst (.tuple #[.agg #[.int .i64 0, .int .i64 0, .int .i64 0, .int .i64 0, .int .i64 0, .int .i64 0, .int .i64 0, .int .u16 0, .int .u8 0], .bool false])) w) : wpList Tryz.prog ops Q (o :: rest) a w := by
  refine lookE_wp hg m x hop b M hm h k hx hk ?_
  rw [hf]; exact hK
end
set_option maxHeartbeats 1000000 in
theorem dl_byId (w : World) (v : Value) (n : Nat) (A : Nat → En) (hv : RdE w v n A) (hr : rise (-1) (preE A n)) :
    Calls Tryz.prog 50 #[v] w fun e w' => e = .returned (.map (some w.heap.size)) ∧ MapE w' w.heap.size (preE A n) ∧ Below w.heap.size w w' := by
  have HR : Hid (RdE w v n A) := hv
  have HI : Hid (∀ k, k < n → ins (A k) (preE A k) = preE A (k + 1) ∧ 0 ≤ (A k).i ∧ (A k).i ≤ 65535) := fun k hk => pre_ins hr hk
  clear hr
  obtain ⟨ao, cap, rfl, hc, hm, _⟩ := hv
  have hmm := @run_makeMap Tryz.prog
  go_enter Tryz.func50, Tryz.ntmps50
  go_wp2_with fail
  have M0 := MapE.made w
  have b0 : Below w.heap.size w (w.alloc (.map #[] 0)) := (Below.refl _ _).alloc (Nat.le_refl _) _
  generalize w.alloc (.map #[] 0) = W at M0 b0 ⊢
  obtain ⟨H, hH⟩ : ∃ H, w.heap.size = H := ⟨_, rfl⟩
  have HH : Hid (w.heap.size = H) := hH
  rw [hH] at M0 b0
  rw [hH]
  clear hH hmm
  go_loopw [9] (fun i wr => ∃ k : Nat, k ≤ n ∧ i = .int .i64 k ∧ MapE wr H (preE A k) ∧ Below H w wr) (fun i _ => n - (intOf i).toNat)
  case atStart => exact ⟨0, by omega, rfl, M0, b0⟩
  case round =>
    obtain ⟨k, hk, rfl, q1, q4⟩ := hrel
    have q3 : RdE wr (.slice ao n cap) n A := HR.out.below (by rw [HH.out]; exact q4)
    have Q1 : Hid (MapE wr H (preE A k)) := q1
    by_cases hlt : k < n
    · obtain ⟨g1, o1, e1, l1, c1⟩ := rdE_at q3 hlt
      obtain ⟨i1, i2, i3⟩ := HI.out k hlt
      obtain ⟨r, hr⟩ : ∃ r, A k = r := ⟨_, rfl⟩
      rw [hr] at i1 i2 i3 c1
      have I1 : Hid (ins r (preE A k) = preE A (k + 1)) := i1
      subst e1
      have x0 := c1 0 _ rfl
      have x1 := c1 1 _ rfl
      have x2 := c1 2 _ rfl
      have x3 := c1 3 _ rfl
      have x4 := c1 4 _ rfl
      have x5 := c1 5 _ rfl
      have x6 := c1 6 _ rfl
      have x7 := c1 7 _ rfl
      have x8 := c1 8 _ rfl
      simp only [Nat.add_zero] at x0
      clear c1 q1 q3 hr i1
      obtain ⟨r0, r1, r2, r3, r4, r5, r6, r7, r8⟩ := r
      simp only at i2 i3
      go_upto_region 5 with fail
      generalize hV : wr.alloc (.cells #[.int .i64 r0, .int .i64 r1, .int .i64 r2, .int .i64 r3, .int .i64 r4, .int .i64 r5, .int .i64 r6, .int .u16 r7, .int .u8 r8] 69) = V
      obtain ⟨C2, bn, -⟩ := boxed hV
      have V1 : Hid (MapE V H (preE A k)) := Q1.out.below bn
      have B2 := bup q4 (Nat.le_of_eq HH.out.symm) bn
      obtain ⟨MT, hMT⟩ : ∃ M, wr.heap.size = M := ⟨_, rfl⟩
      rw [hMT] at C2
      rw [hMT]
      have lc := C2.lt
      have y0 := C2.cell 0 _ rfl
      have y1 := C2.cell 1 _ rfl
      have y2 := C2.cell 2 _ rfl
      have y3 := C2.cell 3 _ rfl
      have y4 := C2.cell 4 _ rfl
      have y5 := C2.cell 5 _ rfl
      have y6 := C2.cell 6 _ rfl
      have y7 := C2.cell 7 _ rfl
      have y8 := C2.cell 8 _ rfl
      clear hV hMT x0 x1 x2 x3 x4 x5 x6 x7 x8 bn q4 Q1 l1 C2
      go_wp2_with (at_mapUpdate; refine storeE_wp rfl _ _ _ rfl H (preE A k) rfl (by exact V1.out) ⟨r0, r1, r2, r3, r4, r5, r6, r7, r8⟩ rfl rfl (by exact i2) (by exact i3) ?_; intro w1 m1 g1; have M1 : Hid (MapE w1 H (preE A (k + 1))) := (by rw [← I1.out]; exact m1); have B3 : Below H w w1 := B2.grown g1 (by have := B2.size; rw [HH.out] at this; exact this) (fun j e => by cases e; exact Nat.le_refl _); clear m1 g1)
      go_roundw
      case rel => exact ⟨k + 1, by omega, by go_num, M1.out, B3⟩
      case measure => simp [intOf]; omega
    · obtain rfl : k = n := by omega
      clear q1 q3
      go_wp2_with fail
      go_ret
      rw [HH.out]
      exact ⟨rfl, Q1.out, q4⟩
def doE (M : List En) (r : Rc) : Int := match doR M r with
  | none => 15
  | some _ => 0
set_option maxHeartbeats 2000000 in
theorem dl_do (w : World) (b : Nat) (M : List En) (r : Rc) (h : MapE w b M) (hc : chk r = 0) :
    Calls Tryz.prog 51 #[.map (some b), recV r] w fun e w' => e = .returned (.int .i64 (doE M r)) ∧ (∀ N, doR M r = some N → MapE w' b N) ∧ w.grownBy w' (some b) := by
  have HM : Hid (MapE w b M) := h
  have hb := chk_in hc
  have HC : Hid (chk r = 0) := hc
  have DN : ∀ x, findE r.i M = x → doR M r = (match x with
    | none => if r.k = 0 then some (ins (newE r) M) else none
    | some x => if r.k = 0 then none else if r.k = 2 then some (del r.i M) else some (ins (appN x r) M)) := fun x hx => by unfold doR; rw [hx]; cases x <;> rfl
  cases hf : findE r.i M with
  | none =>
    have D := DN none hf
    have HF : Hid (findE r.i M = none) := hf
    by_cases k0 : r.k = 0
    · have D1 : doR M r = some (ins (newE r) M) := by rw [D]; exact if_pos k0
      have E1 : doE M r = 0 := by unfold doE; rw [D1]
      have D2 : Hid (doR M r = some (ins (newE r) M)) := D1
      rw [E1]
      clear DN D D1 E1 hf HC hc h
      obtain ⟨r0, r1, r2, r3, r4, r5, r6, r7, r8⟩ := r
      simp only at k0 hb
      subst k0
      obtain ⟨_, _, hb0, hb1⟩ := hb
      go_enter Tryz.func51, Tryz.ntmps51
      go_upto_region 1 with fail
      generalize hW : w.alloc (.cells #[.int .i64 0, .int .i64 r1, .int .i64 r2, .int .i64 r3, .int .i64 r4, .int .i64 r5, .int .i64 r6, .int .i64 r7, .int .u16 r8] 107) = W
      obtain ⟨C0, b0, -⟩ := boxed hW
      have m0 : Hid (MapE W b M) := HM.out.below b0
      obtain ⟨H, hH⟩ : ∃ H, w.heap.size = H := ⟨_, rfl⟩
      have HH : Hid (w.heap.size = H) := hH
      rw [hH] at C0
      rw [hH]
      have lc := C0.lt
      have y0 := C0.cell 0 _ rfl
      have y1 := C0.cell 1 _ rfl
      have y2 := C0.cell 2 _ rfl
      have y3 := C0.cell 3 _ rfl
      have y4 := C0.cell 4 _ rfl
      have y5 := C0.cell 5 _ rfl
      have y6 := C0.cell 6 _ rfl
      have y7 := C0.cell 7 _ rfl
      have y8 := C0.cell 8 _ rfl
      clear hW hH C0
      go_wp2_with (first | (at_lookup; refine lookE_no rfl _ _ rfl b M rfl (by exact m0.out) r1 rfl (by unfold S64; omega) (by exact HF.out) ?_) | (at_mapUpdate; refine storeE_wp rfl _ _ _ rfl b M rfl (by exact MapE.alloc m0.out _) (newE ⟨0, r1, r2, r3, r4, r5, r6, r7, r8⟩) rfl rfl (by exact hb0) (by exact hb1) ?_; intro w1 m1 g1; have M1 : Hid (MapE w1 b (ins (newE ⟨0, r1, r2, r3, r4, r5, r6, r7, r8⟩) M)) := m1; have G1 : Hid (w.grownBy w1 (some b)) := gby b0 (((World.grownBy_alloc _ _ _)).trans g1); clear m1 g1))
      go_ret
      exact ⟨rfl, fun N hN => by rw [D2.out] at hN; cases hN; exact M1.out, G1.out⟩
    · have D1 : doR M r = none := by rw [D]; exact if_neg k0
      have E1 : doE M r = 15 := by unfold doE; rw [D1]
      have D2 : Hid (doR M r = none) := D1
      rw [E1]
      clear DN D D1 E1 hf HC hc h
      obtain ⟨r0, r1, r2, r3, r4, r5, r6, r7, r8⟩ := r
      simp only at k0 hb
      have kq : (r0 == 0) = false := by simp [k0]
      obtain ⟨_, _, hb0, hb1⟩ := hb
      go_enter Tryz.func51, Tryz.ntmps51
      go_upto_region 1 with fail
      generalize hW : w.alloc (.cells #[.int .i64 r0, .int .i64 r1, .int .i64 r2, .int .i64 r3, .int .i64 r4, .int .i64 r5, .int .i64 r6, .int .i64 r7, .int .u16 r8] 107) = W
      obtain ⟨C0, b0, -⟩ := boxed hW
      have m0 : Hid (MapE W b M) := HM.out.below b0
      obtain ⟨H, hH⟩ : ∃ H, w.heap.size = H := ⟨_, rfl⟩
      have HH : Hid (w.heap.size = H) := hH
      rw [hH] at C0
      rw [hH]
      have lc := C0.lt
      have y0 := C0.cell 0 _ rfl
      have y1 := C0.cell 1 _ rfl
      have y2 := C0.cell 2 _ rfl
      have y3 := C0.cell 3 _ rfl
      have y4 := C0.cell 4 _ rfl
      have y5 := C0.cell 5 _ rfl
      have y6 := C0.cell 6 _ rfl
      have y7 := C0.cell 7 _ rfl
      have y8 := C0.cell 8 _ rfl
      clear hW hH C0
      go_wp2_with (at_lookup; refine lookE_no rfl _ _ rfl b M rfl (by exact m0.out) r1 rfl (by unfold S64; omega) (by exact HF.out) ?_)
      go_ret
      exact ⟨rfl, fun N hN => (by rw [D2.out] at hN; cases hN), gby b0 (World.grownBy_alloc _ _ _)⟩
  | some x =>
    have D := DN (some x) hf
    have HF : Hid (findE r.i M = some x) := hf
    have hxi := (find_i hf).1
    by_cases k0 : r.k = 0
    · have D1 : doR M r = none := by rw [D]; exact if_pos k0
      have E1 : doE M r = 15 := by unfold doE; rw [D1]
      have D2 : Hid (doR M r = none) := D1
      rw [E1]
      clear DN D D1 E1 hf HC hc h hxi
      obtain ⟨r0, r1, r2, r3, r4, r5, r6, r7, r8⟩ := r
      obtain ⟨x0, x1, x2, x3, x4, x5, x6, x7, x8⟩ := x
      simp only at k0 hb
      subst k0
      obtain ⟨_, _, hb0, hb1⟩ := hb
      go_enter Tryz.func51, Tryz.ntmps51
      go_upto_region 1 with fail
      generalize hW : w.alloc (.cells #[.int .i64 0, .int .i64 r1, .int .i64 r2, .int .i64 r3, .int .i64 r4, .int .i64 r5, .int .i64 r6, .int .i64 r7, .int .u16 r8] 107) = W
      obtain ⟨C0, b0, -⟩ := boxed hW
      have m0 : Hid (MapE W b M) := HM.out.below b0
      obtain ⟨H, hH⟩ : ∃ H, w.heap.size = H := ⟨_, rfl⟩
      have HH : Hid (w.heap.size = H) := hH
      rw [hH] at C0
      rw [hH]
      have lc := C0.lt
      have y0 := C0.cell 0 _ rfl
      have y1 := C0.cell 1 _ rfl
      have y2 := C0.cell 2 _ rfl
      have y3 := C0.cell 3 _ rfl
      have y4 := C0.cell 4 _ rfl
      have y5 := C0.cell 5 _ rfl
      have y6 := C0.cell 6 _ rfl
      have y7 := C0.cell 7 _ rfl
      have y8 := C0.cell 8 _ rfl
      clear hW hH C0
      go_wp2_with (at_lookup; refine lookE_yes rfl _ _ rfl b M rfl (by exact m0.out) r1 rfl (by unfold S64; omega) _ (by exact HF.out) ?_)
      go_ret
      exact ⟨rfl, fun N hN => (by rw [D2.out] at hN; cases hN), gby b0 (World.grownBy_alloc _ _ _)⟩
    by_cases k2 : r.k = 2
    · have D1 : doR M r = some (del r.i M) := by rw [D]; show (if r.k = 0 then _ else if r.k = 2 then _ else _) = _; rw [if_neg k0, if_pos k2]
      have E1 : doE M r = 0 := by unfold doE; rw [D1]
      have D2 : Hid (doR M r = some (del r.i M)) := D1
      rw [E1]
      clear DN D D1 E1 hf HC hc h hxi
      obtain ⟨r0, r1, r2, r3, r4, r5, r6, r7, r8⟩ := r
      obtain ⟨x0, x1, x2, x3, x4, x5, x6, x7, x8⟩ := x
      simp only at k0 k2 hb
      subst k2
      obtain ⟨_, _, hb0, hb1⟩ := hb
      clear k0
      go_enter Tryz.func51, Tryz.ntmps51
      go_upto_region 1 with fail
      generalize hW : w.alloc (.cells #[.int .i64 2, .int .i64 r1, .int .i64 r2, .int .i64 r3, .int .i64 r4, .int .i64 r5, .int .i64 r6, .int .i64 r7, .int .u16 r8] 107) = W
      obtain ⟨C0, b0, -⟩ := boxed hW
      have m0 : Hid (MapE W b M) := HM.out.below b0
      obtain ⟨H, hH⟩ : ∃ H, w.heap.size = H := ⟨_, rfl⟩
      have HH : Hid (w.heap.size = H) := hH
      rw [hH] at C0
      rw [hH]
      have lc := C0.lt
      have y0 := C0.cell 0 _ rfl
      have y1 := C0.cell 1 _ rfl
      have y2 := C0.cell 2 _ rfl
      have y3 := C0.cell 3 _ rfl
      have y4 := C0.cell 4 _ rfl
      have y5 := C0.cell 5 _ rfl
      have y6 := C0.cell 6 _ rfl
      have y7 := C0.cell 7 _ rfl
      have y8 := C0.cell 8 _ rfl
      clear hW hH C0
      go_wp2_with (first | (at_lookup; refine lookE_yes rfl _ _ rfl b M rfl (by exact m0.out) r1 rfl (by unfold S64; omega) _ (by exact HF.out) ?_) | (at_delete; refine delE_wp rfl _ _ rfl b M rfl (by exact MapE.alloc m0.out _) r1 rfl (by unfold S64; omega) ?_; intro w1 m1 g1; have M1 : Hid (MapE w1 b (del r1 M)) := m1; have G1 : Hid (w.grownBy w1 (some b)) := gby b0 (((World.grownBy_alloc _ _ _)).trans g1); clear m1 g1))
      go_ret
      exact ⟨rfl, fun N hN => by rw [D2.out] at hN; cases hN; exact M1.out, G1.out⟩
    have D1 : doR M r = some (ins (appN x r) M) := by rw [D]; show (if r.k = 0 then _ else if r.k = 2 then _ else _) = _; rw [if_neg k0, if_neg k2]
    have E1 : doE M r = 0 := by unfold doE; rw [D1]
    obtain ⟨ap0, ap1⟩ := app_same (x := x) hc hxi.symm k0 k2
    have HA : Hid (∀ w', Calls Tryz.prog 83 #[entV x, recV r] w' fun e w'' => e = .returned (.tuple #[entV (appN x r), .int .i64 0]) ∧ Below w'.heap.size w' w'') := fun w' => by rw [← ap0]; exact rec_apply w' x r
    rw [E1]
    obtain ⟨N, hN⟩ : ∃ N, appN x r = N := ⟨_, rfl⟩
    rw [hN] at D1 ap1 HA
    have D2 : Hid (doR M r = some (ins N M)) := D1
    have kq0 : (r.k == 0) = false := by simp [k0]
    have kq2 : (r.k == 2) = false := by simp [k2]
    clear DN D D1 E1 hf HC hc h hxi hN ap0
    obtain ⟨r0, r1, r2, r3, r4, r5, r6, r7, r8⟩ := r
    obtain ⟨x0, x1, x2, x3, x4, x5, x6, x7, x8⟩ := x
    obtain ⟨n0, n1, n2, n3, n4, n5, n6, n7, n8⟩ := N
    simp only at k0 k2 hb ap1 kq0 kq2
    subst ap1
    obtain ⟨_, _, hb0, hb1⟩ := hb
    clear k0 k2
    go_enter Tryz.func51, Tryz.ntmps51
    go_upto_region 1 with fail
    generalize hW : w.alloc (.cells #[.int .i64 r0, .int .i64 n0, .int .i64 r2, .int .i64 r3, .int .i64 r4, .int .i64 r5, .int .i64 r6, .int .i64 r7, .int .u16 r8] 107) = W
    obtain ⟨C0, b0, -⟩ := boxed hW
    have m0 : Hid (MapE W b M) := HM.out.below b0
    obtain ⟨H, hH⟩ : ∃ H, w.heap.size = H := ⟨_, rfl⟩
    have HH : Hid (w.heap.size = H) := hH
    rw [hH] at C0
    rw [hH]
    have lc := C0.lt
    have y0 := C0.cell 0 _ rfl
    have y1 := C0.cell 1 _ rfl
    have y2 := C0.cell 2 _ rfl
    have y3 := C0.cell 3 _ rfl
    have y4 := C0.cell 4 _ rfl
    have y5 := C0.cell 5 _ rfl
    have y6 := C0.cell 6 _ rfl
    have y7 := C0.cell 7 _ rfl
    have y8 := C0.cell 8 _ rfl
    clear hW hH
    go_upto_region 2 with (at_lookup; refine lookE_yes rfl _ _ rfl b M rfl (by exact m0.out) n0 rfl (by unfold S64; omega) _ (by exact HF.out) ?_)
    generalize hV : W.alloc (.cells #[.int .i64 x0, .int .i64 x1, .int .i64 x2, .int .i64 x3, .int .i64 x4, .int .i64 x5, .int .i64 x6, .int .u16 x7, .int .u8 x8] 69) = V
    obtain ⟨C1, bn, -⟩ := boxed hV
    have m1 : Hid (MapE V b M) := m0.out.below bn
    have C0' := C0.below bn C0.lt
    have b1 := bthen b0 bn
    obtain ⟨MT, hMT⟩ : ∃ M, W.heap.size = M := ⟨_, rfl⟩
    rw [hMT] at C1
    rw [hMT]
    have l0 := C0'.lt
    have l1 := C1.lt
    have y0 := C0'.cell 0 _ rfl
    have y1 := C0'.cell 1 _ rfl
    have y2 := C0'.cell 2 _ rfl
    have y3 := C0'.cell 3 _ rfl
    have y4 := C0'.cell 4 _ rfl
    have y5 := C0'.cell 5 _ rfl
    have y6 := C0'.cell 6 _ rfl
    have y7 := C0'.cell 7 _ rfl
    have y8 := C0'.cell 8 _ rfl
    have z0 := C1.cell 0 _ rfl
    have z1 := C1.cell 1 _ rfl
    have z2 := C1.cell 2 _ rfl
    have z3 := C1.cell 3 _ rfl
    have z4 := C1.cell 4 _ rfl
    have z5 := C1.cell 5 _ rfl
    have z6 := C1.cell 6 _ rfl
    have z7 := C1.cell 7 _ rfl
    have z8 := C1.cell 8 _ rfl
    clear hV hMT C0 bn m0 HF
    go_wp2_with fail
    refine (HA.out _).mono ?_; rintro e' w2 ⟨rfl, b2⟩
    have m2 : Hid (MapE w2 b M) := m1.out.below b2
    have C2 := C0'.below b2 l0
    have b3 := bthen b1 b2
    clear y0 y1 y2 y3 y4 y5 y6 y7 y8 z0 z1 z2 z3 z4 z5 z6 z7 z8 l0 l1 HA b2 C0' C1 m1 b1
    have l0 := C2.lt
    have y1 := C2.cell 1 _ rfl
    go_upto_region 6 with fail
    generalize hV : w2.alloc (.cells #[.int .i64 n0, .int .i64 n1, .int .i64 n2, .int .i64 n3, .int .i64 n4, .int .i64 n5, .int .i64 n6, .int .u16 n7, .int .u8 n8] 69) = V3
    obtain ⟨C3, bn, -⟩ := boxed hV
    have m3 : Hid (MapE V3 b M) := m2.out.below bn
    have C4 := C2.below bn C2.lt
    have b4 := bthen b3 bn
    obtain ⟨MT', hMT⟩ : ∃ M, w2.heap.size = M := ⟨_, rfl⟩
    rw [hMT] at C3
    rw [hMT]
    clear y1 l0
    have l0 := C4.lt
    have l1 := C3.lt
    have y1 := C4.cell 1 _ rfl
    have z0 := C3.cell 0 _ rfl
    have z1 := C3.cell 1 _ rfl
    have z2 := C3.cell 2 _ rfl
    have z3 := C3.cell 3 _ rfl
    have z4 := C3.cell 4 _ rfl
    have z5 := C3.cell 5 _ rfl
    have z6 := C3.cell 6 _ rfl
    have z7 := C3.cell 7 _ rfl
    have z8 := C3.cell 8 _ rfl
    clear hV hMT bn m2 C2 b3 b0
    go_wp2_with (at_mapUpdate; refine storeE_wp rfl _ _ _ rfl b M rfl (by exact m3.out) ⟨n0, n1, n2, n3, n4, n5, n6, n7, n8⟩ rfl rfl (by exact hb0) (by exact hb1) ?_; intro w5 m5 g5; have M5 : Hid (MapE w5 b (ins ⟨n0, n1, n2, n3, n4, n5, n6, n7, n8⟩ M)) := m5; have G5 : Hid (w.grownBy w5 (some b)) := gby b4 g5; clear m5 g5)
    go_ret
    exact ⟨rfl, fun N hN => by rw [D2.out] at hN; cases hN; exact M5.out, G5.out⟩
end Go.Proofs.YtlpdhglibgnkoaaGreat

namespace Go.Proofs.YtlpdhglibgnkoaaGreat
open Go.Shelf
def layE_ren : Go.Shelf.Ren := ⟨fun | 6 => 114 | 15 => 142 | 14 => 141 | 28 => 166 | 29 => 146 | 20 => 158 | 21 => 159 | 22 => 160 | 23 => 161 | 24 => 162 | 25 => 163 | 26 => 164 | 27 => 165 | 46 => 169 | 47 => 170 | 48 => 171 | 49 => 172 | 50 => 173 | 57 => 174 | n => n, fun | 22 => 43 | 24 => 69 | 25 => 140 | 3 => 3 | 39 => 57 | 0 => 0 | 53 => 168 | 55 => 116 | 4 => 4 | 46 => 204 | 45 => 203 | 50 => 208 | 5 => 5 | 9 => 9 | 66 => 215 | 70 => 219 | 76 => 221 | 77 => 222 | n => n, fun | n => n⟩
theorem layE : Go.Proofs.SlLaysF0.n6 Tryz.prog layE_ren := {
  mixed := by kernel_rfl
  f6 := ⟨Tryz.f114.name, by decide, Tryz.func114.trans (congrArg some (by kernel_rfl))⟩
  f14 := ⟨Tryz.f141.name, by decide, Tryz.func141.trans (congrArg some (by kernel_rfl))⟩
  f15 := Tryz.func142.trans (congrArg some (by kernel_rfl))
  f20 := ⟨Tryz.f158.name, by decide, Tryz.func158.trans (congrArg some (by kernel_rfl))⟩
  f21 := ⟨Tryz.f159.name, by decide, Tryz.func159.trans (congrArg some (by kernel_rfl))⟩
  f22 := ⟨Tryz.f160.name, by decide, Tryz.func160.trans (congrArg some (by kernel_rfl))⟩
  f23 := ⟨Tryz.f161.name, by decide, Tryz.func161.trans (congrArg some (by kernel_rfl))⟩
  f24 := ⟨Tryz.f162.name, by decide, Tryz.func162.trans (congrArg some (by kernel_rfl))⟩
  f25 := ⟨Tryz.f163.name, by decide, Tryz.func163.trans (congrArg some (by kernel_rfl))⟩
  f26 := ⟨Tryz.f164.name, by decide, Tryz.func164.trans (congrArg some (by kernel_rfl))⟩
  f27 := ⟨Tryz.f165.name, by decide, Tryz.func165.trans (congrArg some (by kernel_rfl))⟩
  f28 := Tryz.func166.trans (congrArg some (by kernel_rfl))
  f29 := Tryz.func146.trans (congrArg some (by kernel_rfl))
  f46 := ⟨Tryz.f169.name, by decide, Tryz.func169.trans (congrArg some (by kernel_rfl))⟩
  f47 := Tryz.func170.trans (congrArg some (by kernel_rfl))
  f48 := Tryz.func171.trans (congrArg some (by kernel_rfl))
  f49 := ⟨Tryz.f172.name, by decide, Tryz.func172.trans (congrArg some (by kernel_rfl))⟩
  f50 := ⟨Tryz.f173.name, by decide, Tryz.func173.trans (congrArg some (by kernel_rfl))⟩
  f57 := ⟨Tryz.f174.name, by decide, Tryz.func174.trans (congrArg some (by kernel_rfl))⟩
  t0 := Tryz.underlying0
  a0 := Tryz.isAgg0
  z0 := Tryz.sizeOf0
  v0 := Tryz.zeroValue0
  t3 := Tryz.underlying3
  a3 := Tryz.isAgg3
  z3 := Tryz.sizeOf3
  v3 := Tryz.zeroValue3
  t4 := Tryz.underlying4
  a4 := Tryz.isAgg4
  z4 := Tryz.sizeOf4
  v4 := Tryz.zeroValue4
  t5 := Tryz.underlying5
  a5 := Tryz.isAgg5
  z5 := Tryz.sizeOf5
  v5 := Tryz.zeroValue5
  t9 := Tryz.underlying9
  a9 := Tryz.isAgg9
  z9 := Tryz.sizeOf9
  v9 := Tryz.zeroValue9
  t22 := Tryz.underlying43
  a22 := Tryz.isAgg43
  z22 := Tryz.sizeOf43
  v22 := Tryz.zeroValue43
  t25 := Tryz.underlying140
  a25 := Tryz.isAgg140
  z25 := Tryz.sizeOf140
  v25 := Tryz.zeroValue140
  t39 := Tryz.underlying57
  a39 := Tryz.isAgg57
  z39 := Tryz.sizeOf57
  v39 := Tryz.zeroValue57
  t45 := Tryz.underlying203
  a45 := Tryz.isAgg203
  z45 := Tryz.sizeOf203
  v45 := Tryz.zeroValue203
  t46 := Tryz.underlying204
  a46 := Tryz.isAgg204
  z46 := Tryz.sizeOf204
  v46 := Tryz.zeroValue204
  t50 := Tryz.underlying208
  a50 := Tryz.isAgg208
  z50 := Tryz.sizeOf208
  v50 := Tryz.zeroValue208
  t53 := Tryz.underlying168
  a53 := Tryz.isAgg168
  z53 := Tryz.sizeOf168
  v53 := Tryz.zeroValue168
  t55 := Tryz.underlying116
  a55 := Tryz.isAgg116
  z55 := Tryz.sizeOf116
  v55 := Tryz.zeroValue116
  t66 := Tryz.underlying215
  a66 := Tryz.isAgg215
  z66 := Tryz.sizeOf215
  v66 := Tryz.zeroValue215
  t70 := Tryz.underlying219
  a70 := Tryz.isAgg219
  z70 := Tryz.sizeOf219
  v70 := Tryz.zeroValue219
  t76 := Tryz.underlying221
  a76 := Tryz.isAgg221
  z76 := Tryz.sizeOf221
  v76 := Tryz.zeroValue221
  t77 := Tryz.underlying222
  a77 := Tryz.isAgg222
  z77 := Tryz.sizeOf222
  v77 := Tryz.zeroValue222 }
end Go.Proofs.YtlpdhglibgnkoaaGreat

namespace Go.Proofs.YtlpdhglibgnkoaaGreat
open Go.RowKit Go.Sort Go.Shelf
set_option linter.unusedVariables false
set_option maxRecDepth 20000

theorem heap_sortV {w : World} {g n : Nat} {os : Array Obj} {cur : Array Value} {e : TypeId} {fr : Nat × Nat} (d : Array Value) (hb : w.heap[g]? = some (.cells cur e fr)) :
    (grow (putRow id (Sort.ahead w n) g 0 d) os).heap[g]? = some (.cells (putCells id 0 d cur) e fr) := by
  have hg : g < w.heap.size := (Array.getElem?_eq_some_iff.1 hb).1
  rw [heap_grow_old _ _ (by simpa using hg)]
  simp [putRow, mapBlock, Sort.ahead, Array.getElem?_modify, hb, onCells]
theorem grownBy_sortV {w : World} {g n : Nat} {os : Array Obj} (d : Array Value) : w.grownBy (grow (putRow id (Sort.ahead w n) g 0 d) os) (some g) := by
  refine ⟨rfl, rfl, rfl, by simp, fun k hk hne => ?_⟩
  rw [heap_grow_old _ _ (by simpa using hk)]
  have : g ≠ k := fun e => hne (by rw [e])
  simp [putRow, mapBlock, Sort.ahead, Array.getElem?_modify, this]
theorem take_putV (cur : Array Value) (ts : List Value) (h : ts.length ≤ cur.size) : (putCells id 0 ts.toArray cur).toList.take ts.length = ts := by
  apply List.ext_getElem?
  intro j
  by_cases hj : j < ts.length
  · rw [List.getElem?_take_of_lt hj, Array.getElem?_toList]
    simp [putCells, hj, show j < cur.size by omega]
  · rw [List.getElem?_take_eq_none (by omega), List.getElem?_eq_none (by omega)]
theorem holdsV {w : World} {g : Nat} {cur : Array Value} {e : TypeId} {ss : List Value} (hb : w.heap[g]? = some (.cells cur e (0, 0))) (ht : cur.toList.take ss.length = ss) : Holds id w g 0 ss.toArray := by
  intro j hj
  have hj' : j < ss.length := by simpa using hj
  refine ⟨?_, by simp [World.frozen?, hb]⟩
  have h1 : (cur.toList.take ss.length)[j]? = ss[j]? := by rw [ht]
  rw [List.getElem?_take_of_lt hj'] at h1
  simp only [World.cell?, hb, Nat.zero_add]
  simp only [Option.isSome_none, Bool.false_eq_true, if_false]
  rw [← Array.getElem?_toList, h1]
  simp [hj']
theorem flat_eq {α : Type} [Inhabited α] (enc : α → List Value) (h9 : ∀ x, (enc x).length = 9) (L : List α) (F : List Value) (hF : F.length = L.length * 9) (hat : ∀ i j x, i < L.length → (enc L[i]!)[j]? = some x → F[i * 9 + j]? = some x) : flatK enc 9 L.toArray = F.toArray := by
  refine Array.ext (by rw [size_flatK]; simp [hF]) fun t h1 h2 => ?_
  have ht : t < L.length * 9 := by rw [size_flatK] at h1; simpa using h1
  have hm : t % 9 < 9 := Nat.mod_lt _ (by omega)
  have hi : t / 9 < L.length := by omega
  have g := get_flatK enc 9 L.toArray t (by simpa using ht)
  rw [getElem!_pos _ t h1] at g
  have e2 : L.toArray[t / 9]! = L[t / 9]! := by simp
  rw [g, e2]
  have hl : t % 9 < (enc L[t / 9]!).length := by rw [h9]; exact hm
  rw [getElem!_pos _ (t % 9) hl]
  have e := hat (t / 9) (t % 9) _ hi (List.getElem?_eq_getElem hl)
  rw [show t / 9 * 9 + t % 9 = t by omega] at e
  rw [List.getElem_toArray]
  obtain ⟨_, e'⟩ := List.getElem?_eq_some_iff.1 e
  exact e'.symm
theorem flatE [Inhabited En] (L : List En) : flatK entC 9 L.toArray = (ents L).toArray :=
  flat_eq entC (fun _ => rfl) L (ents L) (ents_len L) fun i j x hi h => ents_at L i j x hi (by
    have e : L.getD i noEnt = L[i]! := by rw [getElem!_pos L i hi]; simp [List.getD, hi]
    rw [e]; exact h)

/-! the comparison -/
def cmpI (a b : Int) : Int := if a < b then -1 else if b < a then 1 else 0
theorem nan_any (w : World) (a : Int) : Calls Tryz.prog 116 #[.int .i64 a] w fun e w' => e = .returned (.bool false) ∧ w' = w := by
  go_enter Tryz.func116, Tryz.ntmps116
  go_wp2_with fail
  go_ret
  exact ⟨by simp, rfl⟩
theorem cmp_any (w : World) (a b : Int) : Calls Tryz.prog 87 #[.int .i64 a, .int .i64 b] w fun e w' => e = .returned (.int .i64 (cmpI a b)) ∧ w' = w := by
  have H : Hid ((a < b → cmpI a b = -1) ∧ (¬ a < b → b < a → cmpI a b = 1) ∧ (¬ a < b → ¬ b < a → cmpI a b = 0)) := ⟨fun h => if_pos h, fun h h2 => by unfold cmpI; rw [if_neg h, if_pos h2], fun h h2 => by unfold cmpI; rw [if_neg h, if_neg h2]⟩
  obtain ⟨c, hc⟩ : ∃ c, cmpI a b = c := ⟨_, rfl⟩
  rw [hc] at H
  rw [hc]
  clear hc
  by_cases h1 : a < b
  · have e := H.out.1 h1
    subst e
    clear H
    go_enter Tryz.func87, Tryz.ntmps87
    go_wp2_with (go_at_call 116; refine (nan_any _ _).mono ?_; rintro e w' ⟨rfl, rfl⟩)
    go_ret
    exact ⟨rfl, rfl⟩
  · by_cases h2 : b < a
    · have e := H.out.2.1 h1 h2
      subst e
      clear H
      go_enter Tryz.func87, Tryz.ntmps87
      go_wp2_with (go_at_call 116; refine (nan_any _ _).mono ?_; rintro e w' ⟨rfl, rfl⟩)
      go_ret
      exact ⟨rfl, rfl⟩
    · have e := H.out.2.2 h1 h2
      subst e
      clear H
      go_enter Tryz.func87, Tryz.ntmps87
      go_wp2_with (go_at_call 116; refine (nan_any _ _).mono ?_; rintro e w' ⟨rfl, rfl⟩)
      go_ret
      exact ⟨rfl, rfl⟩
def cfR (x y : Rc) : Int := cmpI x.i y.i
def cfE (x y : En) : Int := cmpI x.i y.i
theorem lt_cmp {a b : Int} : (decide (cmpI a b < 0)) = decide (a < b) := by
  unfold cmpI
  by_cases h1 : a < b
  · simp [h1]
  · by_cases h2 : b < a <;> simp [h1, h2]
theorem ltE (x y : En) : ltOf cfE x y = decide (x.i < y.i) := lt_cmp
theorem swoE : SWO (ltOf cfE) where
  irrefl x := by rw [ltE]; simp
  trans x y z h1 h2 := by rw [ltE] at *; simp at *; omega
  ntrans x y z h1 h2 := by rw [ltE] at *; simp at *; omega
theorem cloE (x y : En) (W : World) : Calls Tryz.prog 86 #[entV x, entV y] W fun e w' => e = .returned (.int .i64 (cfE x y)) ∧ ∃ q os', w' = grow (W.drewN q) os' := by
  have HC : Hid (∀ w', Calls Tryz.prog 87 #[.int .i64 x.i, .int .i64 y.i] w' fun e w'' => e = .returned (.int .i64 (cfE x y)) ∧ w'' = w') := fun w' => cmp_any w' x.i y.i
  obtain ⟨c, hc⟩ : ∃ c, cfE x y = c := ⟨_, rfl⟩
  rw [hc] at HC
  rw [hc]
  clear hc
  go_enter Tryz.func86, Tryz.ntmps86
  go_wp2_with (go_at_call 87; refine (HC.out _).mono ?_; rintro e w' ⟨rfl, rfl⟩)
  go_ret
  exact ⟨rfl, 0, _, by rw [alloc_eq_grow, alloc_eq_grow, grow_grow]; rfl⟩
/-- A sorted permutation, as lists. -/
theorem sorted_list {α : Type} [Inhabited α] {lt : α → α → Bool} {L : List α} {d' : Array α} (hp : PermIn 0 L.toArray.size L.toArray d') (hs : SortedIn lt 0 L.toArray.size d') : d'.toList.Perm L ∧ d'.toList.Pairwise (fun x y => lt y x = false) := by
  have hsz : d'.size = L.length := by simpa using hp.1
  constructor
  · have := hp.2.2
    have e1 : d'.extract 0 L.toArray.size = d' := by rw [← hp.1]; simp
    have e2 : L.toArray.extract 0 L.toArray.size = L.toArray := by simp
    rw [e1, e2] at this
    simpa using this
  · refine List.pairwise_iff_getElem.2 fun i j hi hj hij => ?_
    have h := hs i j (Nat.zero_le _) hij (by simp at hj; simp; omega)
    rw [getElem!_pos d' j (by simpa using hj), getElem!_pos d' i (by simpa using hi)] at h
    simpa using h
theorem aggE (w : World) : (isAgg 69).run Tryz.prog w = .ok true w := by kernel_rfl
theorem sizeE (w : World) : (Go.sizeOf 69).run Tryz.prog w = .ok 9 w := by kernel_rfl
theorem sortE_any (w : World) (B : Nat) (v : Value) (L : List En) (h : OwnE w B v L) (hl : L.length ≤ 1000000) :
    Calls Tryz.prog 114 #[v, .func (.func 86) #[] #[]] w fun e w' => e = .returned (.tuple #[]) ∧ ∃ S : List En, S.Perm L ∧ S.Pairwise (fun x y => x.i ≤ y.i) ∧ OwnE w' B v S ∧ w.grownBy w' v.ownBlock := by
  haveI : Inhabited Rc := ⟨noRec⟩
  haveI : Inhabited En := ⟨noEnt⟩
  rcases h.2 with ⟨rfl, h0⟩ | ⟨g, cap, cur, rfl, hB, hg, hc, hm, hs, ht⟩
  · have hnil : L = [] := List.eq_nil_of_length_eq_zero h0
    subst hnil
    have hS := AnyF.slices_SortFunc_none (P := Tryz.prog) (ρ := layE_ren) { layE with } none 0 (.func (.func 86) #[] #[]) w
    change Calls Tryz.prog 114 _ _ _ at hS
    refine hS.mono fun e w' ⟨he, hw⟩ => ?_
    subst hw
    exact ⟨he, [], List.Perm.refl _, List.Pairwise.nil, h, World.grownBy.refl _ _⟩
  · have eg : ∀ args w, (callFunc 86 args).run Tryz.prog w = .ok (.enter 86 args) w := enters_of Tryz.func86 (by kernel_rfl) rfl
    have hlen := ents_len L
    have hH : HoldsK entC 9 w g 0 L.toArray := by
      unfold HoldsK
      rw [flatE]
      exact holdsV hg (by rw [hlen]; exact ht)
    have hcon := AnyQ.slices_SortFunc layE 9 aggE sizeE entC (fun _ => rfl) entC_one cfE swoE 86 #[] g 0 cap L.toArray w eg (fun _ _ _ _ x y => cloE x y _) hH (Array.getElem?_eq_some_iff.1 hg).1 (by simp; omega)
    change Calls Tryz.prog 114 _ _ _ at hcon
    have es : L.toArray.size = L.length := by simp
    rw [es] at hcon
    refine hcon.mono fun e w' ⟨he, d', n, os, hp, hso, hw⟩ => ?_
    obtain ⟨q1, q2⟩ := sorted_list (by rw [es]; exact hp) (by rw [es]; exact hso)
    subst hw
    have hfl : flatK entC 9 d' = (ents d'.toList).toArray := by have := flatE d'.toList; simpa using this
    have hdl : d'.toList.length = L.length := q1.length_eq
    refine ⟨he, d'.toList, q1, q2.imp (fun {a b} h => by rw [ltE] at h; simp at h; omega), ?_, ?_⟩
    · unfold sortWorldK putRowK
      rw [hfl]
      unfold OwnE
      rw [hdl]
      refine ⟨by rw [ents_len, hdl], .inr ⟨g, cap, _, rfl, hB, heap_sortV _ hg, hc, hm, by simp [putCells, hs], ?_⟩⟩
      have hr := ents_len d'.toList
      rw [hdl] at hr
      rw [← hr]
      exact take_putV cur _ (by rw [hr, hs]; omega)
    · unfold sortWorldK putRowK
      exact grownBy_sortV _
end Go.Proofs.YtlpdhglibgnkoaaGreat
