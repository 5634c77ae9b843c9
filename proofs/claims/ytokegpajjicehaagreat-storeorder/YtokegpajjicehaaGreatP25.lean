/-
  Texts Dl7, Ly1, Dl8, Dl9 in one.
-/
import Derived.Maps.AppendAt
import Derived.Test.YtokegpajjicehaaGreatRows
import Derived.Shelf.SlSortCmp.NoneTotal
import Derived.Sort.OwnSorted
import Derived.RangeFuncNested
import Derived.RangeFuncBound
import Derived.RangeFuncCalls
import Derived.RangeFuncLeaves
import Derived.RangeFuncBox
import Derived.Shelf.Abstract
import Derived.Shelf.RegionOpen
import Derived.WalkKit
import Derived.OwnWalkIn
import Derived.TacticsInMore
import Derived.LoopNIn
import Derived.LoopIn
import Derived.Maps.OwnIn
import Derived.Sort.MapsRangeIn
import Derived.RangeFuncSeq
import Derived.Test.YtokegpajjicehaaGreatP24
namespace Go.Proofs.YtokegpajjicehaaGreat
open Go.RowKit
set_option linter.unusedVariables false
set_option maxRecDepth 8000

theorem gby {w W w' : World} {b : Nat} (h1 : Below w.heap.size w W) (h2 : W.grownBy w' (some b)) : w.grownBy w' (some b) := ((below_by h1).but _).trans h2
theorem ins_last : ∀ {L : List En} {a : Int} {e : En}, rise a (L ++ [e]) → ins e L = L ++ [e]
  | [], _, _, _ => rfl
  | x :: L, a, e, h => by
    have h1 := (rise_lt h.2.2 e (by simp)).1
    show (if x.i < e.i then _ else _) = _
    rw [if_pos h1, ins_last h.2.2]; rfl
theorem rise_left : ∀ {L R : List En} {a : Int}, rise a (L ++ R) → rise a L
  | [], _, _, _ => trivial
  | x :: L, R, a, h => ⟨h.1, h.2.1, rise_left h.2.2⟩
theorem pre_ins {A : Nat → En} {n : Nat} (h : rise (-1) (preE A n)) {k : Nat} (hk : k < n) : ins (A k) (preE A k) = preE A (k + 1) ∧ 0 ≤ (A k).i ∧ (A k).i ≤ 65535 := by
  obtain ⟨R, e⟩ := preE_split A hk
  have h1 : rise (-1) (preE A (k + 1)) := by
    rw [preE_succ]
    refine rise_left (R := R) ?_
    rw [List.append_assoc]
    have := h
    rw [e] at this
    exact this
  have h2 := h1
  rw [preE_succ] at h2
  have h3 := rise_lt h2 (A k) (by simp)
  exact ⟨by rw [ins_last h2, preE_succ], by omega, h3.2⟩
section
variable {w : World} {ops : Array Oper} {rest : List Oper} {o : Oper} {a : Act} {Q : Exit → Act → World → Prop}
theorem lookE_yes (hg : o.guard = none) (m x : Operand) (hop : o.op = Op.lookup 107 m x true) (b : Nat) (M : List En) (hm : a.eval m = .map (some b)) (h : MapE w b M) (k : Int) (hx : a.eval x = .int .i64 k) (hk : S64 k) (e : En) (hf : findE k M = some e)
    (hK : wpList Tryz.prog ops Q rest (a.put o.dst (.tuple #[entV e, .bool true])) w) : wpList Tryz.prog ops Q (o :: rest) a w := by
  refine lookE_wp hg m x hop b M hm h k hx hk ?_
  rw [hf]; exact hK
theorem lookE_no (hg : o.guard = none) (m x : Operand) (hop : o.op = Op.lookup 107 m x true) (b : Nat) (M : List En) (hm : a.eval m = .map (some b)) (h : MapE w b M) (k : Int) (hx : a.eval x = .int .i64 k) (hk : S64 k) (hf : findE k M = none)
    (hK : wpList Tryz.prog ops Q rest (a.put o.dst (.tuple #[.agg #[.int .i64 0, .int .i64 0, .int .i64 0, .int .i64 0, .int .i64 0, .int .i64 0, .int .i64 0, .int .u16 0, .int .u8 0], .bool false])) w) : wpList Tryz.prog ops Q (o :: rest) a w := by
  refine lookE_wp hg m x hop b M hm h k hx hk ?_
  rw [hf]; exact hK
end
set_option maxHeartbeats 1000000 in
theorem dl_byId (w : World) (v : Value) (n : Nat) (A : Nat → En) (hv : RdE w v n A) (hr : rise (-1) (preE A n)) :
    Calls Tryz.prog 53 #[v] w fun e w' => e = .returned (.map (some w.heap.size)) ∧ MapE w' w.heap.size (preE A n) ∧ Below w.heap.size w w' := by
  have HR : Hid (RdE w v n A) := hv
  have HI : Hid (∀ k, k < n → ins (A k) (preE A k) = preE A (k + 1) ∧ 0 ≤ (A k).i ∧ (A k).i ≤ 65535) := fun k hk => pre_ins hr hk
  clear hr
  obtain ⟨ao, cap, rfl, hc, hm, _⟩ := hv
  have hmm := @run_makeMap Tryz.prog
  go_enter Tryz.func53, Tryz.ntmps53
  go_wp2_with fail
  have M0 := MapE.made w
  have b0 : Below w.heap.size w (w.alloc (.map #[] 0)) := (Below.refl _ _).alloc (Nat.le_refl _) _
  generalize w.alloc (.map #[] 0) = W at M0 b0 ⊢
  obtain ⟨H, hH⟩ : ∃ H, w.heap.size = H := ⟨_, rfl⟩
  have HH : Hid (w.heap.size = H) := hH
  rw [hH] at M0 b0
  rw [hH]
  clear hH hmm
  go_loopw [9] (fun i wr => ∃ k : Nat, k ≤ n ∧ i = .int .i64 k ∧ MapE wr H (preE A k) ∧ Below H w wr) (fun i _ => n - (intOf i).toNat)
  case atStart => exact ⟨0, by omega, rfl, M0, b0⟩
  case round =>
    obtain ⟨k, hk, rfl, q1, q4⟩ := hrel
    have q3 : RdE wr (.slice ao n cap) n A := HR.out.below (by rw [HH.out]; exact q4)
    have Q1 : Hid (MapE wr H (preE A k)) := q1
    by_cases hlt : k < n
    · obtain ⟨g1, o1, e1, l1, c1⟩ := rdE_at q3 hlt
      obtain ⟨i1, i2, i3⟩ := HI.out k hlt
      obtain ⟨r, hr⟩ : ∃ r, A k = r := ⟨_, rfl⟩
      rw [hr] at i1 i2 i3 c1
      have I1 : Hid (ins r (preE A k) = preE A (k + 1)) := i1
      subst e1
      have x0 := c1 0 _ rfl
      have x1 := c1 1 _ rfl
      have x2 := c1 2 _ rfl
      have x3 := c1 3 _ rfl
      have x4 := c1 4 _ rfl
      have x5 := c1 5 _ rfl
      have x6 := c1 6 _ rfl
      have x7 := c1 7 _ rfl
      have x8 := c1 8 _ rfl
      simp only [Nat.add_zero] at x0
      clear c1 q1 q3 hr i1
      obtain ⟨r0, r1, r2, r3, r4, r5, r6, r7, r8⟩ := r
      simp only at i2 i3
      go_upto_region 5 with fail
      generalize hV : wr.alloc (.cells #[.int .i64 r0, .int .i64 r1, .int .i64 r2, .int .i64 r3, .int .i64 r4, .int .i64 r5, .int .i64 r6, .int .u16 r7, .int .u8 r8] 40) = V
      obtain ⟨C2, bn, -⟩ := boxed hV
      have V1 : Hid (MapE V H (preE A k)) := Q1.out.below bn
      have B2 := bup q4 (Nat.le_of_eq HH.out.symm) bn
      obtain ⟨MT, hMT⟩ : ∃ M, wr.heap.size = M := ⟨_, rfl⟩
      rw [hMT] at C2
      rw [hMT]
      have lc := C2.lt
      have y0 := C2.cell 0 _ rfl
      have y1 := C2.cell 1 _ rfl
      have y2 := C2.cell 2 _ rfl
      have y3 := C2.cell 3 _ rfl
      have y4 := C2.cell 4 _ rfl
      have y5 := C2.cell 5 _ rfl
      have y6 := C2.cell 6 _ rfl
      have y7 := C2.cell 7 _ rfl
      have y8 := C2.cell 8 _ rfl
      clear hV hMT x0 x1 x2 x3 x4 x5 x6 x7 x8 bn q4 Q1 l1 C2
      go_wp2_with (at_mapUpdate; refine storeE_wp rfl _ _ _ rfl H (preE A k) rfl (by exact V1.out) ⟨r0, r1, r2, r3, r4, r5, r6, r7, r8⟩ rfl rfl (by exact i2) (by exact i3) ?_; intro w1 m1 g1; have M1 : Hid (MapE w1 H (preE A (k + 1))) := (by rw [← I1.out]; exact m1); have B3 : Below H w w1 := B2.grown g1 (by have := B2.size; rw [HH.out] at this; exact this) (fun j e => by cases e; exact Nat.le_refl _); clear m1 g1)
      go_roundw
      case rel => exact ⟨k + 1, by omega, by go_num, M1.out, B3⟩
      case measure => simp [intOf]; omega
    · obtain rfl : k = n := by omega
      clear q1 q3
      go_wp2_with fail
      go_ret
      rw [HH.out]
      exact ⟨rfl, Q1.out, q4⟩
def doE (M : List En) (r : Rc) : Int := match doR M r with
  | none => 15
  | some _ => 0
set_option maxHeartbeats 2000000 in
theorem dl_do (w : World) (b : Nat) (M : List En) (r : Rc) (h : MapE w b M) (hc : chk r = 0) :
    Calls Tryz.prog 54 #[.map (some b), recV r] w fun e w' => e = .returned (.int .i64 (doE M r)) ∧ (∀ N, doR M r = some N → MapE w' b N) ∧ w.grownBy w' (some b) := by
  have HM : Hid (MapE w b M) := h
  have hb := chk_in hc
  have HC : Hid (chk r = 0) := hc
  have DN : ∀ x, findE r.i M = x → doR M r = (match x with
    | none => if r.k = 0 then some (ins (newE r) M) else none
    | some x => if r.k = 0 then none else if r.k = 2 then some (del r.i M) else some (ins (appN x r) M)) := fun x hx => by unfold doR; rw [hx]; cases x <;> rfl
  cases hf : findE r.i M with
  | none =>
    have D := DN none hf
    have HF : Hid (findE r.i M = none) := hf
    by_cases k0 : r.k = 0
    · have D1 : doR M r = some (ins (newE r) M) := by rw [D]; exact if_pos k0
      have E1 : doE M r = 0 := by unfold doE; rw [D1]
      have D2 : Hid (doR M r = some (ins (newE r) M)) := D1
      rw [E1]
      clear DN D D1 E1 hf HC hc h
      obtain ⟨r0, r1, r2, r3, r4, r5, r6, r7, r8⟩ := r
      simp only at k0 hb
      subst k0
      obtain ⟨_, _, hb0, hb1⟩ := hb
      go_enter Tryz.func54, Tryz.ntmps54
      go_upto_region 1 with fail
      generalize hW : w.alloc (.cells #[.int .i64 0, .int .i64 r1, .int .i64 r2, .int .i64 r3, .int .i64 r4, .int .i64 r5, .int .i64 r6, .int .i64 r7, .int .u16 r8] 79) = W
      obtain ⟨C0, b0, -⟩ := boxed hW
      have m0 : Hid (MapE W b M) := HM.out.below b0
      obtain ⟨H, hH⟩ : ∃ H, w.heap.size = H := ⟨_, rfl⟩
      have HH : Hid (w.heap.size = H) := hH
      rw [hH] at C0
      rw [hH]
      have lc := C0.lt
      have y0 := C0.cell 0 _ rfl
      have y1 := C0.cell 1 _ rfl
      have y2 := C0.cell 2 _ rfl
      have y3 := C0.cell 3 _ rfl
      have y4 := C0.cell 4 _ rfl
      have y5 := C0.cell 5 _ rfl
      have y6 := C0.cell 6 _ rfl
      have y7 := C0.cell 7 _ rfl
      have y8 := C0.cell 8 _ rfl
      clear hW hH C0
      go_wp2_with (first | (at_lookup; refine lookE_no rfl _ _ rfl b M rfl (by exact m0.out) r1 rfl (by unfold S64; omega) (by exact HF.out) ?_) | (at_mapUpdate; refine storeE_wp rfl _ _ _ rfl b M rfl (by exact MapE.alloc m0.out _) (newE ⟨0, r1, r2, r3, r4, r5, r6, r7, r8⟩) rfl rfl (by exact hb0) (by exact hb1) ?_; intro w1 m1 g1; have M1 : Hid (MapE w1 b (ins (newE ⟨0, r1, r2, r3, r4, r5, r6, r7, r8⟩) M)) := m1; have G1 : Hid (w.grownBy w1 (some b)) := gby b0 (((World.grownBy_alloc _ _ _)).trans g1); clear m1 g1))
      go_ret
      exact ⟨rfl, fun N hN => by rw [D2.out] at hN; cases hN; exact M1.out, G1.out⟩
    · have D1 : doR M r = none := by rw [D]; exact if_neg k0
      have E1 : doE M r = 15 := by unfold doE; rw [D1]
      have D2 : Hid (doR M r = none) := D1
      rw [E1]
      clear DN D D1 E1 hf HC hc h
      obtain ⟨r0, r1, r2, r3, r4, r5, r6, r7, r8⟩ := r
      simp only at k0 hb
      have kq : (r0 == 0) = false := by simp [k0]
      obtain ⟨_, _, hb0, hb1⟩ := hb
      go_enter Tryz.func54, Tryz.ntmps54
      go_upto_region 1 with fail
      generalize hW : w.alloc (.cells #[.int .i64 r0, .int .i64 r1, .int .i64 r2, .int .i64 r3, .int .i64 r4, .int .i64 r5, .int .i64 r6, .int .i64 r7, .int .u16 r8] 79) = W
      obtain ⟨C0, b0, -⟩ := boxed hW
      have m0 : Hid (MapE W b M) := HM.out.below b0
      obtain ⟨H, hH⟩ : ∃ H, w.heap.size = H := ⟨_, rfl⟩
      have HH : Hid (w.heap.size = H) := hH
      rw [hH] at C0
      rw [hH]
      have lc := C0.lt
      have y0 := C0.cell 0 _ rfl
      have y1 := C0.cell 1 _ rfl
      have y2 := C0.cell 2 _ rfl
      have y3 := C0.cell 3 _ rfl
      have y4 := C0.cell 4 _ rfl
      have y5 := C0.cell 5 _ rfl
      have y6 := C0.cell 6 _ rfl
      have y7 := C0.cell 7 _ rfl
      have y8 := C0.cell 8 _ rfl
      clear hW hH C0
      go_wp2_with (at_lookup; refine lookE_no rfl _ _ rfl b M rfl (by exact m0.out) r1 rfl (by unfold S64; omega) (by exact HF.out) ?_)
      go_ret
      exact ⟨rfl, fun N hN => (by rw [D2.out] at hN; cases hN), gby b0 (World.grownBy_alloc _ _ _)⟩
  | some x =>
    have D := DN (some x) hf
    have HF : Hid (findE r.i M = some x) := hf
    have hxi := (find_i hf).1
    by_cases k0 : r.k = 0
    · have D1 : doR M r = none := by rw [D]; exact if_pos k0
      have E1 : doE M r = 15 := by unfold doE; rw [D1]
      have D2 : Hid (doR M r = none) := D1
      rw [E1]
      clear DN D D1 E1 hf HC hc h hxi
      obtain ⟨r0, r1, r2, r3, r4, r5, r6, r7, r8⟩ := r
      obtain ⟨x0, x1, x2, x3, x4, x5, x6, x7, x8⟩ := x
      simp only at k0 hb
      subst k0
      obtain ⟨_, _, hb0, hb1⟩ := hb
      go_enter Tryz.func54, Tryz.ntmps54
      go_upto_region 1 with fail
      generalize hW : w.alloc (.cells #[.int .i64 0, .int .i64 r1, .int .i64 r2, .int .i64 r3, .int .i64 r4, .int .i64 r5, .int .i64 r6, .int .i64 r7, .int .u16 r8] 79) = W
      obtain ⟨C0, b0, -⟩ := boxed hW
      have m0 : Hid (MapE W b M) := HM.out.below b0
      obtain ⟨H, hH⟩ : ∃ H, w.heap.size = H := ⟨_, rfl⟩
      have HH : Hid (w.heap.size = H) := hH
      rw [hH] at C0
      rw [hH]
      have lc := C0.lt
      have y0 := C0.cell 0 _ rfl
      have y1 := C0.cell 1 _ rfl
      have y2 := C0.cell 2 _ rfl
      have y3 := C0.cell 3 _ rfl
      have y4 := C0.cell 4 _ rfl
      have y5 := C0.cell 5 _ rfl
      have y6 := C0.cell 6 _ rfl
      have y7 := C0.cell 7 _ rfl
      have y8 := C0.cell 8 _ rfl
      clear hW hH C0
      go_wp2_with (at_lookup; refine lookE_yes rfl _ _ rfl b M rfl (by exact m0.out) r1 rfl (by unfold S64; omega) _ (by exact HF.out) ?_)
      go_ret
      exact ⟨rfl, fun N hN => (by rw [D2.out] at hN; cases hN), gby b0 (World.grownBy_alloc _ _ _)⟩
    by_cases k2 : r.k = 2
    · have D1 : doR M r = some (del r.i M) := by rw [D]; show (if r.k = 0 then _ else if r.k = 2 then _ else _) = _; rw [if_neg k0, if_pos k2]
      have E1 : doE M r = 0 := by unfold doE; rw [D1]
      have D2 : Hid (doR M r = some (del r.i M)) := D1
      rw [E1]
      clear DN D D1 E1 hf HC hc h hxi
      obtain ⟨r0, r1, r2, r3, r4, r5, r6, r7, r8⟩ := r
      obtain ⟨x0, x1, x2, x3, x4, x5, x6, x7, x8⟩ := x
      simp only at k0 k2 hb
      subst k2
      obtain ⟨_, _, hb0, hb1⟩ := hb
      clear k0
      go_enter Tryz.func54, Tryz.ntmps54
      go_upto_region 1 with fail
      generalize hW : w.alloc (.cells #[.int .i64 2, .int .i64 r1, .int .i64 r2, .int .i64 r3, .int .i64 r4, .int .i64 r5, .int .i64 r6, .int .i64 r7, .int .u16 r8] 79) = W
      obtain ⟨C0, b0, -⟩ := boxed hW
      have m0 : Hid (MapE W b M) := HM.out.below b0
      obtain ⟨H, hH⟩ : ∃ H, w.heap.size = H := ⟨_, rfl⟩
      have HH : Hid (w.heap.size = H) := hH
      rw [hH] at C0
      rw [hH]
      have lc := C0.lt
      have y0 := C0.cell 0 _ rfl
      have y1 := C0.cell 1 _ rfl
      have y2 := C0.cell 2 _ rfl
      have y3 := C0.cell 3 _ rfl
      have y4 := C0.cell 4 _ rfl
      have y5 := C0.cell 5 _ rfl
      have y6 := C0.cell 6 _ rfl
      have y7 := C0.cell 7 _ rfl
      have y8 := C0.cell 8 _ rfl
      clear hW hH C0
      go_wp2_with (first | (at_lookup; refine lookE_yes rfl _ _ rfl b M rfl (by exact m0.out) r1 rfl (by unfold S64; omega) _ (by exact HF.out) ?_) | (at_delete; refine delE_wp rfl _ _ rfl b M rfl (by exact MapE.alloc m0.out _) r1 rfl (by unfold S64; omega) ?_; intro w1 m1 g1; have M1 : Hid (MapE w1 b (del r1 M)) := m1; have G1 : Hid (w.grownBy w1 (some b)) := gby b0 (((World.grownBy_alloc _ _ _)).trans g1); clear m1 g1))
      go_ret
      exact ⟨rfl, fun N hN => by rw [D2.out] at hN; cases hN; exact M1.out, G1.out⟩
    have D1 : doR M r = some (ins (appN x r) M) := by rw [D]; show (if r.k = 0 then _ else if r.k = 2 then _ else _) = _; rw [if_neg k0, if_neg k2]
    have E1 : doE M r = 0 := by unfold doE; rw [D1]
    obtain ⟨ap0, ap1⟩ := app_same (x := x) hc hxi.symm k0 k2
    have HA : Hid (∀ w', Calls Tryz.prog 91 #[entV x, recV r] w' fun e w'' => e = .returned (.tuple #[entV (appN x r), .int .i64 0]) ∧ Below w'.heap.size w' w'') := fun w' => by rw [← ap0]; exact rec_apply w' x r
    rw [E1]
    obtain ⟨N, hN⟩ : ∃ N, appN x r = N := ⟨_, rfl⟩
    rw [hN] at D1 ap1 HA
    have D2 : Hid (doR M r = some (ins N M)) := D1
    have kq0 : (r.k == 0) = false := by simp [k0]
    have kq2 : (r.k == 2) = false := by simp [k2]
    clear DN D D1 E1 hf HC hc h hxi hN ap0
    obtain ⟨r0, r1, r2, r3, r4, r5, r6, r7, r8⟩ := r
    obtain ⟨x0, x1, x2, x3, x4, x5, x6, x7, x8⟩ := x
    obtain ⟨n0, n1, n2, n3, n4, n5, n6, n7, n8⟩ := N
    simp only at k0 k2 hb ap1 kq0 kq2
    subst ap1
    obtain ⟨_, _, hb0, hb1⟩ := hb
    clear k0 k2
    go_enter Tryz.func54, Tryz.ntmps54
    go_upto_region 1 with fail
    generalize hW : w.alloc (.cells #[.int .i64 r0, .int .i64 n0, .int .i64 r2, .int .i64 r3, .int .i64 r4, .int .i64 r5, .int .i64 r6, .int .i64 r7, .int .u16 r8] 79) = W
    obtain ⟨C0, b0, -⟩ := boxed hW
    have m0 : Hid (MapE W b M) := HM.out.below b0
    obtain ⟨H, hH⟩ : ∃ H, w.heap.size = H := ⟨_, rfl⟩
    have HH : Hid (w.heap.size = H) := hH
    rw [hH] at C0
    rw [hH]
    have lc := C0.lt
    have y0 := C0.cell 0 _ rfl
    have y1 := C0.cell 1 _ rfl
    have y2 := C0.cell 2 _ rfl
    have y3 := C0.cell 3 _ rfl
    have y4 := C0.cell 4 _ rfl
    have y5 := C0.cell 5 _ rfl
    have y6 := C0.cell 6 _ rfl
    have y7 := C0.cell 7 _ rfl
    have y8 := C0.cell 8 _ rfl
    clear hW hH
    go_upto_region 2 with (at_lookup; refine lookE_yes rfl _ _ rfl b M rfl (by exact m0.out) n0 rfl (by unfold S64; omega) _ (by exact HF.out) ?_)
    generalize hV : W.alloc (.cells #[.int .i64 x0, .int .i64 x1, .int .i64 x2, .int .i64 x3, .int .i64 x4, .int .i64 x5, .int .i64 x6, .int .u16 x7, .int .u8 x8] 40) = V
    obtain ⟨C1, bn, -⟩ := boxed hV
    have m1 : Hid (MapE V b M) := m0.out.below bn
    have C0' := C0.below bn C0.lt
    have b1 := bthen b0 bn
    obtain ⟨MT, hMT⟩ : ∃ M, W.heap.size = M := ⟨_, rfl⟩
    rw [hMT] at C1
    rw [hMT]
    have l0 := C0'.lt
    have l1 := C1.lt
    have y0 := C0'.cell 0 _ rfl
    have y1 := C0'.cell 1 _ rfl
    have y2 := C0'.cell 2 _ rfl
    have y3 := C0'.cell 3 _ rfl
    have y4 := C0'.cell 4 _ rfl
    have y5 := C0'.cell 5 _ rfl
    have y6 := C0'.cell 6 _ rfl
    have y7 := C0'.cell 7 _ rfl
    have y8 := C0'.cell 8 _ rfl
    have z0 := C1.cell 0 _ rfl
    have z1 := C1.cell 1 _ rfl
    have z2 := C1.cell 2 _ rfl
    have z3 := C1.cell 3 _ rfl
    have z4 := C1.cell 4 _ rfl
    have z5 := C1.cell 5 _ rfl
    have z6 := C1.cell 6 _ rfl
    have z7 := C1.cell 7 _ rfl
    have z8 := C1.cell 8 _ rfl
    clear hV hMT C0 bn m0 HF
    go_wp2_with fail
    refine (HA.out _).mono ?_; rintro e' w2 ⟨rfl, b2⟩
    have m2 : Hid (MapE w2 b M) := m1.out.below b2
    have C2 := C0'.below b2 l0
    have b3 := bthen b1 b2
    clear y0 y1 y2 y3 y4 y5 y6 y7 y8 z0 z1 z2 z3 z4 z5 z6 z7 z8 l0 l1 HA b2 C0' C1 m1 b1
    have l0 := C2.lt
    have y1 := C2.cell 1 _ rfl
    go_upto_region 6 with fail
    generalize hV : w2.alloc (.cells #[.int .i64 n0, .int .i64 n1, .int .i64 n2, .int .i64 n3, .int .i64 n4, .int .i64 n5, .int .i64 n6, .int .u16 n7, .int .u8 n8] 40) = V3
    obtain ⟨C3, bn, -⟩ := boxed hV
    have m3 : Hid (MapE V3 b M) := m2.out.below bn
    have C4 := C2.below bn C2.lt
    have b4 := bthen b3 bn
    obtain ⟨MT', hMT⟩ : ∃ M, w2.heap.size = M := ⟨_, rfl⟩
    rw [hMT] at C3
    rw [hMT]
    clear y1 l0
    have l0 := C4.lt
    have l1 := C3.lt
    have y1 := C4.cell 1 _ rfl
    have z0 := C3.cell 0 _ rfl
    have z1 := C3.cell 1 _ rfl
    have z2 := C3.cell 2 _ rfl
    have z3 := C3.cell 3 _ rfl
    have z4 := C3.cell 4 _ rfl
    have z5 := C3.cell 5 _ rfl
    have z6 := C3.cell 6 _ rfl
    have z7 := C3.cell 7 _ rfl
    have z8 := C3.cell 8 _ rfl
    clear hV hMT bn m2 C2 b3 b0
    go_wp2_with (at_mapUpdate; refine storeE_wp rfl _ _ _ rfl b M rfl (by exact m3.out) ⟨n0, n1, n2, n3, n4, n5, n6, n7, n8⟩ rfl rfl (by exact hb0) (by exact hb1) ?_; intro w5 m5 g5; have M5 : Hid (MapE w5 b (ins ⟨n0, n1, n2, n3, n4, n5, n6, n7, n8⟩ M)) := m5; have G5 : Hid (w.grownBy w5 (some b)) := gby b4 g5; clear m5 g5)
    go_ret
    exact ⟨rfl, fun N hN => by rw [D2.out] at hN; cases hN; exact M5.out, G5.out⟩
end Go.Proofs.YtokegpajjicehaaGreat

namespace Go.Proofs.YtokegpajjicehaaGreat
open Go.Shelf
def layR_ren : Go.Shelf.Ren := ⟨fun | 6 => 58 | 15 => 97 | 14 => 96 | 28 => 137 | 29 => 138 | 20 => 129 | 21 => 130 | 22 => 131 | 23 => 132 | 24 => 133 | 25 => 134 | 26 => 135 | 27 => 136 | 46 => 169 | 47 => 170 | 48 => 171 | 49 => 172 | 50 => 173 | 57 => 199 | n => n, fun | 22 => 27 | 24 => 79 | 25 => 115 | 3 => 3 | 39 => 89 | 0 => 0 | 53 => 175 | 55 => 152 | 4 => 4 | 46 => 186 | 45 => 185 | 50 => 190 | 5 => 5 | 9 => 9 | 66 => 217 | 70 => 221 | 76 => 239 | 77 => 240 | n => n, fun | n => n⟩
def layE_ren : Go.Shelf.Ren := ⟨fun | 6 => 127 | 15 => 97 | 14 => 168 | 28 => 137 | 29 => 138 | 20 => 191 | 21 => 192 | 22 => 193 | 23 => 194 | 24 => 195 | 25 => 196 | 26 => 197 | 27 => 198 | 46 => 205 | 47 => 170 | 48 => 171 | 49 => 206 | 50 => 207 | 57 => 208 | n => n, fun | 22 => 22 | 24 => 40 | 25 => 142 | 3 => 3 | 39 => 89 | 0 => 0 | 53 => 175 | 55 => 152 | 4 => 4 | 46 => 186 | 45 => 185 | 50 => 190 | 5 => 5 | 9 => 9 | 66 => 217 | 70 => 221 | 76 => 239 | 77 => 240 | n => n, fun | n => n⟩
theorem layE : Go.Proofs.SlLaysF0.n6 Tryz.prog layE_ren := {
  mixed := by kernel_rfl
  f6 := ⟨Tryz.f127.name, by decide, Tryz.func127.trans (congrArg some (by kernel_rfl))⟩
  f14 := ⟨Tryz.f168.name, by decide, Tryz.func168.trans (congrArg some (by kernel_rfl))⟩
  f15 := Tryz.func97.trans (congrArg some (by kernel_rfl))
  f20 := ⟨Tryz.f191.name, by decide, Tryz.func191.trans (congrArg some (by kernel_rfl))⟩
  f21 := ⟨Tryz.f192.name, by decide, Tryz.func192.trans (congrArg some (by kernel_rfl))⟩
  f22 := ⟨Tryz.f193.name, by decide, Tryz.func193.trans (congrArg some (by kernel_rfl))⟩
  f23 := ⟨Tryz.f194.name, by decide, Tryz.func194.trans (congrArg some (by kernel_rfl))⟩
  f24 := ⟨Tryz.f195.name, by decide, Tryz.func195.trans (congrArg some (by kernel_rfl))⟩
  f25 := ⟨Tryz.f196.name, by decide, Tryz.func196.trans (congrArg some (by kernel_rfl))⟩
  f26 := ⟨Tryz.f197.name, by decide, Tryz.func197.trans (congrArg some (by kernel_rfl))⟩
  f27 := ⟨Tryz.f198.name, by decide, Tryz.func198.trans (congrArg some (by kernel_rfl))⟩
  f28 := Tryz.func137.trans (congrArg some (by kernel_rfl))
  f29 := Tryz.func138.trans (congrArg some (by kernel_rfl))
  f46 := ⟨Tryz.f205.name, by decide, Tryz.func205.trans (congrArg some (by kernel_rfl))⟩
  f47 := Tryz.func170.trans (congrArg some (by kernel_rfl))
  f48 := Tryz.func171.trans (congrArg some (by kernel_rfl))
  f49 := ⟨Tryz.f206.name, by decide, Tryz.func206.trans (congrArg some (by kernel_rfl))⟩
  f50 := ⟨Tryz.f207.name, by decide, Tryz.func207.trans (congrArg some (by kernel_rfl))⟩
  f57 := ⟨Tryz.f208.name, by decide, Tryz.func208.trans (congrArg some (by kernel_rfl))⟩
  t0 := Tryz.underlying0
  a0 := Tryz.isAgg0
  z0 := Tryz.sizeOf0
  v0 := Tryz.zeroValue0
  t3 := Tryz.underlying3
  a3 := Tryz.isAgg3
  z3 := Tryz.sizeOf3
  v3 := Tryz.zeroValue3
  t4 := Tryz.underlying4
  a4 := Tryz.isAgg4
  z4 := Tryz.sizeOf4
  v4 := Tryz.zeroValue4
  t5 := Tryz.underlying5
  a5 := Tryz.isAgg5
  z5 := Tryz.sizeOf5
  v5 := Tryz.zeroValue5
  t9 := Tryz.underlying9
  a9 := Tryz.isAgg9
  z9 := Tryz.sizeOf9
  v9 := Tryz.zeroValue9
  t22 := Tryz.underlying22
  a22 := Tryz.isAgg22
  z22 := Tryz.sizeOf22
  v22 := Tryz.zeroValue22
  t25 := Tryz.underlying142
  a25 := Tryz.isAgg142
  z25 := Tryz.sizeOf142
  v25 := Tryz.zeroValue142
  t39 := Tryz.underlying89
  a39 := Tryz.isAgg89
  z39 := Tryz.sizeOf89
  v39 := Tryz.zeroValue89
  t45 := Tryz.underlying185
  a45 := Tryz.isAgg185
  z45 := Tryz.sizeOf185
  v45 := Tryz.zeroValue185
  t46 := Tryz.underlying186
  a46 := Tryz.isAgg186
  z46 := Tryz.sizeOf186
  v46 := Tryz.zeroValue186
  t50 := Tryz.underlying190
  a50 := Tryz.isAgg190
  z50 := Tryz.sizeOf190
  v50 := Tryz.zeroValue190
  t53 := Tryz.underlying175
  a53 := Tryz.isAgg175
  z53 := Tryz.sizeOf175
  v53 := Tryz.zeroValue175
  t55 := Tryz.underlying152
  a55 := Tryz.isAgg152
  z55 := Tryz.sizeOf152
  v55 := Tryz.zeroValue152
  t66 := Tryz.underlying217
  a66 := Tryz.isAgg217
  z66 := Tryz.sizeOf217
  v66 := Tryz.zeroValue217
  t70 := Tryz.underlying221
  a70 := Tryz.isAgg221
  z70 := Tryz.sizeOf221
  v70 := Tryz.zeroValue221
  t76 := Tryz.underlying239
  a76 := Tryz.isAgg239
  z76 := Tryz.sizeOf239
  v76 := Tryz.zeroValue239
  t77 := Tryz.underlying240
  a77 := Tryz.isAgg240
  z77 := Tryz.sizeOf240
  v77 := Tryz.zeroValue240 }
end Go.Proofs.YtokegpajjicehaaGreat

namespace Go.Proofs.YtokegpajjicehaaGreat
open Go.RowKit Go.Sort Go.Shelf
set_option linter.unusedVariables false
set_option maxRecDepth 20000

theorem heap_sortV {w : World} {g n : Nat} {os : Array Obj} {cur : Array Value} {e : TypeId} {fr : Nat × Nat} (d : Array Value) (hb : w.heap[g]? = some (.cells cur e fr)) :
    (grow (putRow id (Sort.ahead w n) g 0 d) os).heap[g]? = some (.cells (putCells id 0 d cur) e fr) := by
  have hg : g < w.heap.size := (Array.getElem?_eq_some_iff.1 hb).1
  rw [heap_grow_old _ _ (by simpa using hg)]
  simp [putRow, mapBlock, Sort.ahead, Array.getElem?_modify, hb, onCells]
theorem grownBy_sortV {w : World} {g n : Nat} {os : Array Obj} (d : Array Value) : w.grownBy (grow (putRow id (Sort.ahead w n) g 0 d) os) (some g) := by
  refine ⟨rfl, rfl, rfl, by simp, fun k hk hne => ?_⟩
  rw [heap_grow_old _ _ (by simpa using hk)]
  have : g ≠ k := fun e => hne (by rw [e])
  simp [putRow, mapBlock, Sort.ahead, Array.getElem?_modify, this]
theorem take_putV (cur : Array Value) (ts : List Value) (h : ts.length ≤ cur.size) : (putCells id 0 ts.toArray cur).toList.take ts.length = ts := by
  apply List.ext_getElem?
  intro j
  by_cases hj : j < ts.length
  · rw [List.getElem?_take_of_lt hj, Array.getElem?_toList]
    simp [putCells, hj, show j < cur.size by omega]
  · rw [List.getElem?_take_eq_none (by omega), List.getElem?_eq_none (by omega)]
theorem holdsV {w : World} {g : Nat} {cur : Array Value} {e : TypeId} {ss : List Value} (hb : w.heap[g]? = some (.cells cur e (0, 0))) (ht : cur.toList.take ss.length = ss) : Holds id w g 0 ss.toArray := by
  intro j hj
  have hj' : j < ss.length := by simpa using hj
  refine ⟨?_, by simp [World.frozen?, hb]⟩
  have h1 : (cur.toList.take ss.length)[j]? = ss[j]? := by rw [ht]
  rw [List.getElem?_take_of_lt hj'] at h1
  simp only [World.cell?, hb, Nat.zero_add]
  simp only [Option.isSome_none, Bool.false_eq_true, if_false]
  rw [← Array.getElem?_toList, h1]
  simp [hj']
theorem flat_eq {α : Type} [Inhabited α] (enc : α → List Value) (h9 : ∀ x, (enc x).length = 9) (L : List α) (F : List Value) (hF : F.length = L.length * 9) (hat : ∀ i j x, i < L.length → (enc L[i]!)[j]? = some x → F[i * 9 + j]? = some x) : flatK enc 9 L.toArray = F.toArray := by
  refine Array.ext (by rw [size_flatK]; simp [hF]) fun t h1 h2 => ?_
  have ht : t < L.length * 9 := by rw [size_flatK] at h1; simpa using h1
  have hm : t % 9 < 9 := Nat.mod_lt _ (by omega)
  have hi : t / 9 < L.length := by omega
  have g := get_flatK enc 9 L.toArray t (by simpa using ht)
  rw [getElem!_pos _ t h1] at g
  have e2 : L.toArray[t / 9]! = L[t / 9]! := by simp
  rw [g, e2]
  have hl : t % 9 < (enc L[t / 9]!).length := by rw [h9]; exact hm
  rw [getElem!_pos _ (t % 9) hl]
  have e := hat (t / 9) (t % 9) _ hi (List.getElem?_eq_getElem hl)
  rw [show t / 9 * 9 + t % 9 = t by omega] at e
  rw [List.getElem_toArray]
  obtain ⟨_, e'⟩ := List.getElem?_eq_some_iff.1 e
  exact e'.symm
theorem flatE [Inhabited En] (L : List En) : flatK entC 9 L.toArray = (ents L).toArray :=
  flat_eq entC (fun _ => rfl) L (ents L) (ents_len L) fun i j x hi h => ents_at L i j x hi (by
    have e : L.getD i noEnt = L[i]! := by rw [getElem!_pos L i hi]; simp [List.getD, hi]
    rw [e]; exact h)

/-! the comparison -/
def cmpI (a b : Int) : Int := if a < b then -1 else if b < a then 1 else 0
theorem nan_any (w : World) (a : Int) : Calls Tryz.prog 98 #[.int .i64 a] w fun e w' => e = .returned (.bool false) ∧ w' = w := by
  go_enter Tryz.func98, Tryz.ntmps98
  go_wp2_with fail
  go_ret
  exact ⟨by simp, rfl⟩
theorem cmp_any (w : World) (a b : Int) : Calls Tryz.prog 60 #[.int .i64 a, .int .i64 b] w fun e w' => e = .returned (.int .i64 (cmpI a b)) ∧ w' = w := by
  have H : Hid ((a < b → cmpI a b = -1) ∧ (¬ a < b → b < a → cmpI a b = 1) ∧ (¬ a < b → ¬ b < a → cmpI a b = 0)) := ⟨fun h => if_pos h, fun h h2 => by unfold cmpI; rw [if_neg h, if_pos h2], fun h h2 => by unfold cmpI; rw [if_neg h, if_neg h2]⟩
  obtain ⟨c, hc⟩ : ∃ c, cmpI a b = c := ⟨_, rfl⟩
  rw [hc] at H
  rw [hc]
  clear hc
  by_cases h1 : a < b
  · have e := H.out.1 h1
    subst e
    clear H
    go_enter Tryz.func60, Tryz.ntmps60
    go_wp2_with (go_at_call 98; refine (nan_any _ _).mono ?_; rintro e w' ⟨rfl, rfl⟩)
    go_ret
    exact ⟨rfl, rfl⟩
  · by_cases h2 : b < a
    · have e := H.out.2.1 h1 h2
      subst e
      clear H
      go_enter Tryz.func60, Tryz.ntmps60
      go_wp2_with (go_at_call 98; refine (nan_any _ _).mono ?_; rintro e w' ⟨rfl, rfl⟩)
      go_ret
      exact ⟨rfl, rfl⟩
    · have e := H.out.2.2 h1 h2
      subst e
      clear H
      go_enter Tryz.func60, Tryz.ntmps60
      go_wp2_with (go_at_call 98; refine (nan_any _ _).mono ?_; rintro e w' ⟨rfl, rfl⟩)
      go_ret
      exact ⟨rfl, rfl⟩
def cfR (x y : Rc) : Int := cmpI x.i y.i
def cfE (x y : En) : Int := cmpI x.i y.i
theorem lt_cmp {a b : Int} : (decide (cmpI a b < 0)) = decide (a < b) := by
  unfold cmpI
  by_cases h1 : a < b
  · simp [h1]
  · by_cases h2 : b < a <;> simp [h1, h2]
theorem ltE (x y : En) : ltOf cfE x y = decide (x.i < y.i) := lt_cmp
theorem swoE : SWO (ltOf cfE) where
  irrefl x := by rw [ltE]; simp
  trans x y z h1 h2 := by rw [ltE] at *; simp at *; omega
  ntrans x y z h1 h2 := by rw [ltE] at *; simp at *; omega
theorem cloE (x y : En) (W : World) : Calls Tryz.prog 94 #[entV x, entV y] W fun e w' => e = .returned (.int .i64 (cfE x y)) ∧ ∃ q os', w' = grow (W.drewN q) os' := by
  have HC : Hid (∀ w', Calls Tryz.prog 60 #[.int .i64 x.i, .int .i64 y.i] w' fun e w'' => e = .returned (.int .i64 (cfE x y)) ∧ w'' = w') := fun w' => cmp_any w' x.i y.i
  obtain ⟨c, hc⟩ : ∃ c, cfE x y = c := ⟨_, rfl⟩
  rw [hc] at HC
  rw [hc]
  clear hc
  go_enter Tryz.func94, Tryz.ntmps94
  go_wp2_with (go_at_call 60; refine (HC.out _).mono ?_; rintro e w' ⟨rfl, rfl⟩)
  go_ret
  exact ⟨rfl, 0, _, by rw [alloc_eq_grow, alloc_eq_grow, grow_grow]; rfl⟩
/-- A sorted permutation, as lists. -/
theorem sorted_list {α : Type} [Inhabited α] {lt : α → α → Bool} {L : List α} {d' : Array α} (hp : PermIn 0 L.toArray.size L.toArray d') (hs : SortedIn lt 0 L.toArray.size d') : d'.toList.Perm L ∧ d'.toList.Pairwise (fun x y => lt y x = false) := by
  have hsz : d'.size = L.length := by simpa using hp.1
  constructor
  · have := hp.2.2
    have e1 : d'.extract 0 L.toArray.size = d' := by rw [← hp.1]; simp
    have e2 : L.toArray.extract 0 L.toArray.size = L.toArray := by simp
    rw [e1, e2] at this
    simpa using this
  · refine List.pairwise_iff_getElem.2 fun i j hi hj hij => ?_
    have h := hs i j (Nat.zero_le _) hij (by simp at hj; simp; omega)
    rw [getElem!_pos d' j (by simpa using hj), getElem!_pos d' i (by simpa using hi)] at h
    simpa using h
theorem aggE (w : World) : (isAgg 40).run Tryz.prog w = .ok true w := by kernel_rfl
theorem sizeE (w : World) : (Go.sizeOf 40).run Tryz.prog w = .ok 9 w := by kernel_rfl
theorem sortE_any (w : World) (B : Nat) (v : Value) (L : List En) (h : OwnE w B v L) (hl : L.length ≤ 1000000) :
    Calls Tryz.prog 127 #[v, .func (.func 94) #[] #[]] w fun e w' => e = .returned (.tuple #[]) ∧ ∃ S : List En, S.Perm L ∧ S.Pairwise (fun x y => x.i ≤ y.i) ∧ OwnE w' B v S ∧ w.grownBy w' v.ownBlock := by
  haveI : Inhabited Rc := ⟨noRec⟩
  haveI : Inhabited En := ⟨noEnt⟩
  rcases h.2 with ⟨rfl, h0⟩ | ⟨g, cap, cur, rfl, hB, hg, hc, hm, hs, ht⟩
  · have hnil : L = [] := List.eq_nil_of_length_eq_zero h0
    subst hnil
    have hS := AnyF.slices_SortFunc_none (P := Tryz.prog) (ρ := layE_ren) { layE with } none 0 (.func (.func 94) #[] #[]) w
    change Calls Tryz.prog 127 _ _ _ at hS
    refine hS.mono fun e w' ⟨he, hw⟩ => ?_
    subst hw
    exact ⟨he, [], List.Perm.refl _, List.Pairwise.nil, h, World.grownBy.refl _ _⟩
  · have eg : ∀ args w, (callFunc 94 args).run Tryz.prog w = .ok (.enter 94 args) w := enters_of Tryz.func94 (by kernel_rfl) rfl
    have hlen := ents_len L
    have hH : HoldsK entC 9 w g 0 L.toArray := by
      unfold HoldsK
      rw [flatE]
      exact holdsV hg (by rw [hlen]; exact ht)
    have hcon := AnyQ.slices_SortFunc layE 9 aggE sizeE entC (fun _ => rfl) entC_one cfE swoE 94 #[] g 0 cap L.toArray w eg (fun _ _ _ _ x y => cloE x y _) hH (Array.getElem?_eq_some_iff.1 hg).1 (by simp; omega)
    change Calls Tryz.prog 127 _ _ _ at hcon
    have es : L.toArray.size = L.length := by simp
    rw [es] at hcon
    refine hcon.mono fun e w' ⟨he, d', n, os, hp, hso, hw⟩ => ?_
    obtain ⟨q1, q2⟩ := sorted_list (by rw [es]; exact hp) (by rw [es]; exact hso)
    subst hw
    have hfl : flatK entC 9 d' = (ents d'.toList).toArray := by have := flatE d'.toList; simpa using this
    have hdl : d'.toList.length = L.length := q1.length_eq
    refine ⟨he, d'.toList, q1, q2.imp (fun {a b} h => by rw [ltE] at h; simp at h; omega), ?_, ?_⟩
    · unfold sortWorldK putRowK
      rw [hfl]
      unfold OwnE
      rw [hdl]
      refine ⟨by rw [ents_len, hdl], .inr ⟨g, cap, _, rfl, hB, heap_sortV _ hg, hc, hm, by simp [putCells, hs], ?_⟩⟩
      have hr := ents_len d'.toList
      rw [hdl] at hr
      rw [← hr]
      exact take_putV cur _ (by rw [hr, hs]; omega)
    · unfold sortWorldK putRowK
      exact grownBy_sortV _
end Go.Proofs.YtokegpajjicehaaGreat

namespace Go.Proofs.YtokegpajjicehaaGreat
open Go.RowKit Go.Shelf
set_option linter.unusedVariables false
set_option maxRecDepth 100000
attribute [local go_sem] Oper.semAt_some


theorem RunE.of_walks {w w' : World} {b r : Nat} {M got : List En} {cnt : Nat} (h : RunE w b r M got cnt) (hk : KeepsWalks w w') : RunE w' b r M got cnt := by
  obtain ⟨D, left, h1, h2⟩ := h
  exact ⟨D, left, h1.of_walks hk, h2⟩
theorem RunE.iter {w : World} {b r : Nat} {M got : List En} {cnt : Nat} (h : RunE w b r M got cnt) : ∃ o : Obj, w.heap[r]? = some o ∧ o.isWalk = true := by
  obtain ⟨D, left, h1, h2⟩ := h
  exact h1.iter_walk
section
variable {F : Fence} {n : Nat} {w : World} {ops : Array Oper} {rest : List Oper} {o : Oper} {a : Act} {Q : Exit → Act → World → Prop}
theorem rangeE_in (hg : o.guard = none) (m : Operand) (hop : o.op = Op.range 107 m) (b : Nat) (M : List En) (hm : a.eval m = .map (some b)) (h : MapE w b M)
    (hK : ∀ w', RunE w' b w.heap.size M [] M.length → w.grownBy w' none → w'.heap.size = w.heap.size + 1 → wpListIn F n Tryz.prog ops Q rest (a.put o.dst (.pointer (some ⟨w.heap.size, 0, none⟩))) w') : wpListIn F n Tryz.prog ops Q (o :: rest) a w := by
  obtain ⟨D, h1, h2, h3⟩ := h
  refine wpListIn_range_own _ hg m 107 hop 3 40 law_int Tryz.underlying107 RV b M.length D hm h1 ?_
  intro w' hr hg' hs
  exact hK w' (mapE_start h2 h3 hr) hg' hs
theorem nextE_in (hg : o.guard = none) (it : Operand) (hop : o.op = Op.next it false) (b r : Nat) (M got : List En) (cnt : Nat) (hit : a.eval it = .pointer (some ⟨r, 0, none⟩)) (h : RunE w b r M got cnt)
    (hDone : got.Perm M → wpListIn F n Tryz.prog ops Q rest (a.put o.dst (.tuple #[.bool false])) w)
    (hMore : ∀ (e : En) (w' : World) (cnt' : Nat), e ∈ M → RunE w' b r M (got ++ [e]) cnt' → cnt' < cnt → w.grownBy w' (some r) → w'.heap.size = w.heap.size →
      (Instr.entry (.pointer (some ⟨r, 0, none⟩))).run Tryz.prog w' = .ok (.tuple #[.int .i64 e.i, entV e]) w' → wpListIn F n Tryz.prog ops Q rest (a.put o.dst (.tuple #[.bool true, .int .i64 e.i, entV e])) w') : wpListIn F n Tryz.prog ops Q (o :: rest) a w := by
  obtain ⟨D, left, h1, h2, h3, h4, h5⟩ := h
  refine wpListIn_next_ranges _ hg it hop 3 law_int RV (Value.int .i64) id (fun key kl hkey => by obtain ⟨x, rfl, _⟩ := Maps.keyOf_int_inv Tryz.underlying3 hkey; exact ⟨x, rfl⟩) (fun v y hv => ⟨v, rfl⟩) b r M.length D left cnt hit h1 (fun hc hl => hDone (RunE.done (w := w) (b := b) (r := r) (cnt := cnt) (D := D) h2 h4 h5 hl)) ?_
  intro x v kl y w' cnt' hkey hl hv hat hr hlt hg' hs hen
  obtain ⟨x', ex, rfl, hwx⟩ := Maps.keyOf_int_inv Tryz.underlying3 hkey
  cases ex
  obtain ⟨e, he, rfl, ev, hR⟩ := RunE.step (cnt := cnt) (w := w) h2 h3 h4 h5 (wf_i64 hwx) hl hv hat hr
  have ev' : v = entV e := ev
  subst ev'
  exact hMore e w' cnt' he hR hlt hg' hs hen
end
abbrev yE (e : En) : Array Value := #[entV e]
theorem dl_values1 (F : Fence) (n : Nat) (h8 : F.fn 128) (hro : F.round = none) (hn : 1 ≤ n) (l Bm b : Nat) (M : List En) (J Jx : List En → World → Prop)
    (hY : ∀ pre x W, J pre W → pre.length < M.length → YieldAt F (n - 1) Tryz.prog l (yE x) W fun e W' =>
      (e = .returned (.bool true) ∧ J (pre ++ [x]) W' ∧ KeepsWalks W W') ∨ (e = .returned (.bool false) ∧ Jx (pre ++ [x]) W'))
    (W : World) (hJ : AbidesFrom W.heap.size J) (hm : W.cell? ⟨Bm, 0, none⟩ = some (.map (some b))) (hown : MapE W b M) (h0 : J [] W) :
    CallsIn F n Tryz.prog 128 #[.func (.yield l) #[] #[], .pointer (some ⟨Bm, 0, none⟩)] W fun e W' => (∃ v, e = .returned v) ∧ ((∃ xs, xs.Perm M ∧ J xs W') ∨ (∃ pre, True ∧ Jx pre W')) := by
  refine callsIn_of_wp Tryz.func128 rfl h8 ?_ hro
  simp only [Tryz.ntmps128, List.size_toArray, List.length_cons, List.length_nil, Nat.reduceAdd, Nat.reduceSub, Array.replicate_succ, Array.replicate_zero, List.push_toArray, List.append_toArray, List.nil_append, List.cons_append]
  gi_wp2_with (first
    | (gi_at_range; refine rangeE_in rfl _ rfl b M rfl (by exact hown) ?_; intro w0 hrg0 hg0 hs0)
    | gi_in)
  go_frame
  gi_loopw [4] (fun _ wr => ∃ (cnt : Nat) (got : List En), RunE wr b W.heap.size M got cnt ∧ got.length + cnt ≤ M.length ∧ J got wr)
    (fun _ wr => wr.rangeLeft b W.heap.size)
  case atStart =>
    exact ⟨_, [], hrg0, by simp, hJ [] W w0 none h0 hg0 (fun r e => by cases e)⟩
  case round =>
    obtain ⟨cnt, got, hrg, hcs, hJs⟩ := hrel
    gi_wp2_with (first
      | (gi_at_next; refine nextE_in rfl _ rfl b W.heap.size M got cnt rfl (by exact hrg) ?_ ?_)
      | gi_in)
    · intro hp
      gi_wp2
      go_end0
      exact ⟨⟨_, rfl⟩, .inl ⟨got, hp, hJs⟩⟩
    · intro e w2 cnt2 he hrg2 hlt hg2 hs2 hen
      have hJ2 : J got w2 := hJ got wr w2 (some W.heap.size) hJs hg2 (fun r e => by cases e; exact ⟨Nat.le_refl _, hrg.iter⟩)
      have hJ3 : J got (w2.alloc (.cells #[.int .i64 e.i, .int .i64 e.p0, .int .i64 e.p1, .int .i64 e.p2, .int .i64 e.v0, .int .i64 e.v1, .int .i64 e.v2, .int .u16 e.a, .int .u8 e.g] 40)) := hJ got w2 _ none hJ2 (World.grownBy_alloc _ _ _) (fun r e => by cases e)
      obtain ⟨fn, tmps, assign, body, hy, hR⟩ := hY got e _ hJ3 (by omega)
      dsimp only [yE] at hy
      clear hs2
      gi_wp2
      refine hR.mono ?_
      have hrg2' := hrg2.kept (World.grownBy_alloc w2 (.cells #[.int .i64 e.i, .int .i64 e.p0, .int .i64 e.p1, .int .i64 e.p2, .int .i64 e.v0, .int .i64 e.v1, .int .i64 e.v2, .int .u16 e.a, .int .u8 e.g] 40) none) (by simp) (by simp)
      rintro e' W3 (⟨rfl, hJ4, hk3⟩ | ⟨rfl, hJx3⟩)
      · gi_wp2
        have hrg3 := hrg2'.of_walks hk3
        go_roundw
        case rel => exact ⟨cnt2, got ++ [e], hrg3, by rw [List.length_append, List.length_singleton]; omega, hJ4⟩
        case measure => rw [hrg3.left_eq, hrg.left_eq]; exact hlt
      · gi_wp2
        refine bodyPost_ret (results_none rfl _ _ _) rfl ?_
        exact ⟨⟨_, rfl⟩, .inr ⟨got ++ [e], trivial, hJx3⟩⟩
theorem dl_stops (F : Fence) (n : Nat) (h7 : F.fn 128) (hro : F.round = none) (hn : 1 ≤ n) (Bm b : Nat) (M : List En) (w : World) (hBm : Bm < w.heap.size)
    (hm : w.cell? ⟨Bm, 0, none⟩ = some (.map (some b))) (hown : MapE w b M) :
    SeqStopsK F n Tryz.prog 128 #[.pointer (some ⟨Bm, 0, none⟩)] yE KeepsWalks (fun xs => xs.Perm M) (fun _ => True) M.length w := fun l J Jx W hW hJ _ hY h0 =>
  dl_values1 F n h7 hro hn l Bm b M J Jx hY W hJ ((hW.cell (p := ⟨Bm, 0, none⟩) hBm).trans hm) (hown.below hW) h0
theorem dl_values (w : World) (b : Nat) : Calls Tryz.prog 93 #[.map (some b)] w fun e w' =>
    e = .returned (.func (.func 128) #[] #[.pointer (some ⟨w.heap.size, 0, none⟩)]) ∧ w' = w.alloc (.cells #[.map (some b)] 107) := by
  go_enter Tryz.func93, Tryz.ntmps93
  go_wp2_with fail
  go_ret
  exact ⟨rfl, rfl⟩
theorem new_ent (w : World) (x : En) : ∀ j u, (entC x)[j]? = some u → (w.alloc (.cells #[.int .i64 x.i, .int .i64 x.p0, .int .i64 x.p1, .int .i64 x.p2, .int .i64 x.v0, .int .i64 x.v1, .int .i64 x.v2, .int .u16 x.a, .int .u8 x.g] 40)).cell? ((⟨w.heap.size, 0, none⟩ : Addr).add j) = some u := fun j u h => by
  have B := Blk.new w #[.int .i64 x.i, .int .i64 x.p0, .int .i64 x.p1, .int .i64 x.p2, .int .i64 x.v0, .int .i64 x.v1, .int .i64 x.v2, .int .u16 x.a, .int .u8 x.g] 40 rfl
  have := B.cell j u (by simpa using h)
  rw [Addr.add_lit, Nat.zero_add]; exact this
theorem ne_types : (22 : Nat) ≠ 40 := by decide
theorem dl_append (F : Fence) (n : Nat) (hf : F.fn 167) (hro : F.round = none) (hn : 2 ≤ n) (gf : Nat) (lb : Array Value) (hFg : F.fn gf) (eg : ∀ args w, (callFunc gf args).run Tryz.prog w = .ok (.enter gf args) w)
    (S Sp : List En → Prop) (N : Nat) (hN : N ≤ 1000000) (w : World) (hseq : SeqStopsK F (n - 1) Tryz.prog gf lb yE KeepsWalks S Sp N w) :
    CallsIn F n Tryz.prog 167 #[.slice none 0 0, .func (.func gf) #[] lb] w fun e w' => ∃ v L, e = .returned v ∧ S L ∧ OwnE w' w.heap.size v L ∧ Below w.heap.size w w' := by
  have h1 : 1 ≤ n := by omega
  obtain ⟨i0, hi, hz0, hz1, hz2⟩ := info_parts infoE
  refine callsIn_of_wp_marks Tryz.func167 rfl hf ?_ hro
  simp only [Tryz.ntmps167, List.size_toArray, List.length_cons, List.length_nil, Nat.reduceAdd, Nat.reduceSub, Array.replicate_succ, Array.replicate_zero, List.push_toArray, List.append_toArray, List.nil_append, List.cons_append]
  gi_wp2
  have bO := Boxed.new w 22 (.slice none 0 0)
  have hB0 : Below w.heap.size w (w.alloc (.cells #[.slice none 0 0] 22)) := (Below.refl _ w).alloc (Nat.le_refl _) _
  have hsz : (w.alloc (.cells #[.slice none 0 0] 22)).heap.size = w.heap.size + 1 := by simp
  obtain ⟨W0, hW0⟩ : ∃ W0, w.alloc (.cells #[.slice none 0 0] 22) = W0 := ⟨_, rfl⟩
  rw [hW0] at bO hB0 hsz ⊢
  clear hW0
  refine wpIn_rangeFunc_ownH hro h1 (gf := gf) (lb := lb) rfl hFg eg hseq walksK_t walksK_b hB0 (fun _ => rfl)
    (fun pre W => (∃ v, Boxed W w.heap.size 22 v ∧ W.ownsRow w.heap.size 40 9 v pre.length (ents pre) ∧ True) ∧ Below w.heap.size w W)
    (fun _ _ _ => False)
    (OwnFrom.and (Own.from (holdsRow_own w.heap.size w.heap.size 22 40 9 (fun pre => List.length pre) (fun pre => ents pre) (fun _ _ => True)) _) (ownFrom_below (Nat.le_refl _) (by omega)))
    (fun _ _ _ _ _ hs _ _ => hs)
    ⟨⟨_, bO, World.ownsRow_nil _ _ _ _, trivial⟩, hB0⟩
    (fun x a' W => ∃ Bx, w.heap.size < Bx ∧ W.heap[Bx]? = some (.cells #[.int .i64 x.i, .int .i64 x.p0, .int .i64 x.p1, .int .i64 x.p2, .int .i64 x.v0, .int .i64 x.v1, .int .i64 x.v2, .int .u16 x.a, .int .u8 x.g] 40 (0, 0)) ∧
      a' = { tmps := #[.slice none 0 0, .func (.func gf) #[] lb, .pointer (some ⟨w.heap.size, 0, none⟩), undef, .slice none 0 0, .pointer (some ⟨Bx, 0, none⟩), .func (.func gf) #[] lb, entV x, undef, undef, undef, undef, undef], defers := [] })
    (fun x a' _ X Y row hs hg hr => by
      obtain ⟨Bx, h1, h2, h3⟩ := hs
      refine ⟨Bx, h1, (hg.block Bx (Array.getElem?_eq_some_iff.1 h2).1 (fun e => ?_)).trans h2, h3⟩
      obtain ⟨_, o, ho, hc⟩ := hr Bx e.symm
      rw [h2] at ho; cases ho; cases hc)
    ?assign ?body ?done ?stop
  case assign =>
    rintro l pre x W K ⟨⟨v, hv, hrow, _⟩, hB1⟩ hK
    gi_wp2
    exact hK _ _ ((KeepsOthers.alloc _ _).from _) (KeepsWalks.alloc _ _) ⟨⟨v, hv.alloc _, hrow.alloc _, trivial⟩, hB1.alloc hB1.size _⟩ ⟨W.heap.size, hv.lt, World.alloc_heap_new W _, rfl⟩
  case body =>
    rintro l pre x a' W hl ⟨r, hr⟩ ⟨⟨v, hv, hrow, _⟩, hB⟩ ⟨Bx, hBx, bX, rfl⟩ hlt
    have hc := hv.cell
    have xs : ∀ (j : Nat) u, (entC x)[j]? = some u → W.cell? ⟨Bx, j, none⟩ = some u := fun j u h => by
      simp only [World.cell?, bX]
      simpa using h
    have x0 := xs 0 _ rfl
    have x1 := xs 1 _ rfl
    have x2 := xs 2 _ rfl
    have x3 := xs 3 _ rfl
    have x4 := xs 4 _ rfl
    have x5 := xs 5 _ rfl
    have x6 := xs 6 _ rfl
    have x7 := xs 7 _ rfl
    have x8 := xs 8 _ rfl
    have lX : Bx < W.heap.size := (Array.getElem?_eq_some_iff.1 bX).1
    clear xs bX
    gi_wp2_with (gi_at_builtin; refine wpListIn_append_own _ rfl _ _ 22 rfl w.heap.size 40 i0 (entV noEnt) 9 64 Tryz.underlying22 hi hz0 hz1 hz2 rfl (by decide) _ _ _ rfl (hrow.alloc _) ⟨W.heap.size, 0, none⟩ 1 1 (entC x) rfl rfl (new_ent W x) (entC_one x) (by unfold maxLen; omega) (by omega) (by have := hB.size; simp; omega) ?_; intro v' w1 hown' hgrow _; obtain ⟨g', cap', rfl⟩ := ownsRow_succ hown'; obtain ⟨hv1, hv2, hr2, hk2, hb2⟩ := hv.appended ne_types hrow hB.size (Nat.le_refl _) hown' hgrow; have hc1 := hv1.cell; have hf1 := hv1.frozen)
    exact ⟨hk2.from _, hk2.walks, ⟨_, hv2, by rw [List.length_append, List.length_singleton, ents_snoc]; exact hr2, trivial⟩, hB.trans hb2⟩
  case done =>
    rintro D L W hD hS ⟨⟨v, hv, hrow, _⟩, hB⟩ hK
    have hc := hv.cell
    gi_wp2
    refine ⟨by simp, .inl ⟨_, _, rfl, run_takeDeferred hK, ?_⟩⟩
    exact ⟨_, results_tmp rfl _ _ _, v, L, rfl, hS, ownsRow_putObj hrow _ hK rfl, hB.trans (belowK_b (w := w) (Nat.le_refl _) W D _ _ (by omega) hK rfl rfl)⟩
  case stop =>
    rintro D c pre W _ _ h _
    exact h.elim
end Go.Proofs.YtokegpajjicehaaGreat
