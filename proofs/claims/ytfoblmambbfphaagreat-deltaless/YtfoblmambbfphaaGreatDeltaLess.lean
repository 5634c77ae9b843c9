/-
  Proved: a record of an entity that isn't there, or a Put of one that is, is refused; without records a snapshot is the other one, at another time (the law DeltaLess answers true at every input).
  Conditions: none.
-/
import Derived.Test.YtfoblmambbfphaaGreatRows
import Derived.Test.YtfoblmambbfphaaGreatP27
namespace Go.Proofs.YtfoblmambbfphaaGreat
open Go.ChangeShapes Go.WideShapes Go.ChangeAt Go.RowKit
set_option linter.unusedVariables false

namespace DeltaLessL
theorem own : ownKnob Tryz.prog.godebug = none := by kernel_rfl

set_option maxRecDepth 20000 in
set_option maxHeartbeats 8000000 in
theorem walk (w : World) (t0 m0 : Int) (u0 : Value) (n0 : Nat) (A0 : Nat → En) (s0 : S64 t0) (s0' : S64 m0) (e0 : ∀ i, i < n0 → (A0 i).ok) (r0 : RdE w u0 n0 A0) (a1 : Int) (v1 : (Lit.int .i64 a1).wf = true) (a2 : Int) (v2 : (Lit.int .i64 a2).wf = true) :
    Calls Tryz.prog 6 #[snV t0 m0 u0, .int .i64 a1, .int .i64 a2] w fun e w' => e = .returned (.bool true) ∧ Below w.heap.size w w' := by
  have R0 : Hid (RdE w u0 n0 A0) := r0
  obtain ⟨o0, k0, q0, hc0, hm0, _⟩ := r0
  subst q0
  clear v1 v2 e0 s0'
  have CH : Hid (∀ w', RdE w' (.slice o0 n0 k0) n0 A0 → Calls Tryz.prog 18 #[snV t0 m0 (.slice o0 n0 k0)] w' fun e w'' => e = .returned (.int .i64 (snE t0 m0 (preE A0 n0))) ∧ Below w'.heap.size w' w'') := fun w' h => sn_check w' t0 m0 _ n0 A0 h
  have T0 : Hid (snE t0 m0 (preE A0 n0) = 0 → 0 ≤ t0) := fun h => (sn_ok h).1
  have AP0 : Hid (snE t0 m0 (preE A0 n0) = 0 → t0 < 4294967295 → -2305843009213693952 ≤ a1 → a1 ≤ 2305843009213693952 → ∀ w', RdE w' (.slice o0 n0 k0) n0 A0 → Calls Tryz.prog 20 #[snV t0 m0 (.slice o0 n0 k0), gmV ⟨t0 + 1, a1, t0⟩ (.slice none 0 0)] w' fun e w'' => ∃ u, e = .returned (.tuple #[snV (t0 + 1) a1 u, .int .i64 0]) ∧ OwnE w'' w'.heap.size u (preE A0 n0) ∧ Below w'.heap.size w' w'') := fun h ht h1 h2 w' hr => by
    have h0 := (sn_ok h).1
    obtain ⟨b1, b2, b3, b4⟩ := les_none h ht ⟨h1, h2⟩ (fun _ => noRec)
    have c := dl_apply w' t0 m0 _ n0 A0 hr ⟨t0 + 1, a1, t0⟩ ⟨by unfold S64; simp only; omega, by unfold S64; simp only; omega, by unfold S64; simp only; omega⟩ (.slice none 0 0) 0 (fun _ => noRec) (fun i hi => absurd hi (Nat.not_lt_zero _)) (RdR.none _)
    rw [b1, b2, b3, b4] at c
    exact c
  have AP1 : Hid (snE t0 m0 (preE A0 n0) = 0 → t0 < 4294967295 → -2305843009213693952 ≤ a1 → a1 ≤ 2305843009213693952 → ∀ r : Rc, r.ok → (0 ≤ r.i ∧ r.i ≤ 65535) → chk r = 0 → ∀ w' gv, RdE w' (.slice o0 n0 k0) n0 A0 → RdR w' gv 1 (fun _ => r) → Calls Tryz.prog 20 #[snV t0 m0 (.slice o0 n0 k0), gmV ⟨t0 + 1, a1, t0⟩ gv] w' fun e w'' => ∃ (T M f : Int) (o : Option Addr) (n k : Nat), e = .returned (.tuple #[snV T M (.slice o n k), .int .i64 f]) ∧ (isO (findE r.i (preE A0 n0)) = decide (r.k = 0) → f = 15) ∧ (isO (findE r.i (preE A0 n0)) ≠ decide (r.k = 0) → f = 0 ∨ (f = 4 ∧ r.k = 0)) ∧ Below w'.heap.size w' w'') := fun h ht h1 h2 r ok hi hc w' gv hr hg => by
    have h0 := (sn_ok h).1
    obtain ⟨b1, b2⟩ := les_one h ht ⟨h1, h2⟩ r hi hc
    have c := dl_apply w' t0 m0 _ n0 A0 hr ⟨t0 + 1, a1, t0⟩ ⟨by unfold S64; simp only; omega, by unfold S64; simp only; omega, by unfold S64; simp only; omega⟩ gv 1 (fun _ => r) (fun i hi => ok) hg
    refine c.mono ?_
    rintro e w2 ⟨u, rfl, own, hb⟩
    obtain ⟨os, ks, rfl⟩ := own.form
    exact ⟨_, _, _, _, _, _, rfl, b1, b2, hb⟩
  obtain ⟨E, hE⟩ : ∃ E, snE t0 m0 (preE A0 n0) = E := ⟨_, rfl⟩
  rw [hE] at CH T0 AP0 AP1
  clear hE
  have FI : Hid (∀ d w', RdE w' (.slice o0 n0 k0) n0 A0 → Calls Tryz.prog 15 #[snV t0 m0 (.slice o0 n0 k0), .int .i64 d] w' fun e w'' => e = .returned (.tuple #[entV (getE (findE d (preE A0 n0))), .bool (isO (findE d (preE A0 n0)))]) ∧ Below w'.heap.size w' w'') := fun d w' h => sn_find w' t0 m0 d _ n0 A0 h
  go_enter Tryz.func6, Tryz.ntmps6
  go_upto_region 1 with fail
  generalize hW : w.alloc (.cells #[.int .i64 t0, .int .i64 m0, .slice o0 n0 k0] 24) = W0
  obtain ⟨a_0, bb, -⟩ := boxed hW
  obtain ⟨H, hH⟩ : ∃ H, w.heap.size = H := ⟨_, rfl⟩
  have HH : Hid (w.heap.size = H) := hH
  have R0_0 : Hid (RdE W0 (.slice o0 n0 k0) n0 A0) := R0.out.below bb
  rw [hH] at a_0 bb
  rw [hH]
  have Q_0 := bb
  have R0w : Hid (RdE w (.slice o0 n0 k0) n0 A0) := R0.out
  clear hW hH bb R0
  have ca0 := a_0.cell 0 _ rfl
  have ca1 := a_0.cell 1 _ rfl
  have ca2 := a_0.cell 2 _ rfl
  have la := a_0.lt
  go_wp2_with fail
  generalize hW : W0.alloc (.cells #[.int .i64 t0, .int .i64 m0, .slice o0 n0 k0] 24) = W1
  obtain ⟨s_1, bb, -⟩ := boxed hW
  obtain ⟨bs, hb⟩ : ∃ x, W0.heap.size = x := ⟨_, rfl⟩
  rw [hb] at s_1  ⊢
  clear hW
  have a_1 := a_0.below bb a_0.lt
  have R0_1 : Hid (RdE W1 (.slice o0 n0 k0) n0 A0) := R0_0.out.below bb
  have Q_1 := bup Q_0 (Nat.le_of_eq HH.out.symm) bb
  clear ca0 ca1 ca2 la
  clear a_0 R0_0 Q_0 bb hb
  obtain ⟨q, hq⟩ : ∃ q : Bool, q = true ↔ ∃ k, k < 1 ∧ 100 < (fun _ : Nat => n0) k := by
    by_cases h : ∃ k, k < 1 ∧ 100 < (fun _ : Nat => n0) k
    · exact ⟨true, fun _ => h, fun _ => rfl⟩
    · exact ⟨false, fun h' => (by cases h'), fun h' => absurd h' h⟩
  have HGR : Hid (Calls Tryz.prog 9 #[.slice (some ⟨bs, 0, none⟩) 1 1] W1 fun e w' => e = .returned (.bool q) ∧ Below W1.heap.size W1 w') := dl_great W1 bs 1 1 (by omega) (by omega) (fun _ => t0) (fun _ => m0) (fun _ => o0) (fun _ => n0) (fun _ => k0) q hq (fun k hk => by
    match k, hk with
    | 0, _ => exact ⟨s_1.cell 0 _ rfl, s_1.cell 1 _ rfl, s_1.cell 2 _ rfl⟩)
  clear hq
  refine (HGR.out).mono ?_; rintro e w2 ⟨rfl, bb⟩
  clear s_1
  have a_2 := a_1.below bb a_1.lt
  have R0_2 : Hid (RdE w2 (.slice o0 n0 k0) n0 A0) := R0_1.out.below bb
  have Q_2 := bup Q_1 (Nat.le_of_eq HH.out.symm) bb
  clear a_1 R0_1 Q_1 bb
  clear HGR
  cases q
  · -- none is more than is looked at
    have ca0 := a_2.cell 0 _ rfl
    have ca1 := a_2.cell 1 _ rfl
    have ca2 := a_2.cell 2 _ rfl
    have la := a_2.lt
    go_wp2_with fail
    refine (CH.out _ R0_2.out).mono ?_; rintro e w3 ⟨rfl, bb⟩
    have a_3 := a_2.below bb a_2.lt
    have R0_3 : Hid (RdE w3 (.slice o0 n0 k0) n0 A0) := R0_2.out.below bb
    have Q_3 := bup Q_2 (Nat.le_of_eq HH.out.symm) bb
    clear ca0 ca1 ca2 la
    clear a_2 R0_2 Q_2 bb
    clear CH
    have ca0 := a_3.cell 0 _ rfl
    have ca1 := a_3.cell 1 _ rfl
    have ca2 := a_3.cell 2 _ rfl
    have la := a_3.lt
    by_cases hz : E = 0
    case neg =>
      have hq : (E == 0) = false := by simp [hz]
      go_wp2_with fail
      refine (dl_alive _).mono ?_; rintro e w9 ⟨rfl, b9⟩
      go_wp2_with fail
      go_ret
      exact ⟨rfl, by rw [HH.out]; exact bup Q_3 (Nat.le_of_eq HH.out.symm) b9⟩
    have t00 := T0.out hz
    by_cases ht : t0 < 4294967295
    case neg =>
      subst hz
      go_wp2_with fail
      refine (dl_alive _).mono ?_; rintro e w9 ⟨rfl, b9⟩
      go_wp2_with fail
      go_ret
      exact ⟨rfl, by rw [HH.out]; exact bup Q_3 (Nat.le_of_eq HH.out.symm) b9⟩
    by_cases h1 : -2305843009213693952 ≤ a1
    case neg =>
      subst hz
      go_wp2_with fail
      refine (dl_alive _).mono ?_; rintro e w9 ⟨rfl, b9⟩
      go_wp2_with fail
      go_ret
      exact ⟨rfl, by rw [HH.out]; exact bup Q_3 (Nat.le_of_eq HH.out.symm) b9⟩
    by_cases h2 : a1 ≤ 2305843009213693952
    case neg =>
      subst hz
      go_wp2_with fail
      refine (dl_alive _).mono ?_; rintro e w9 ⟨rfl, b9⟩
      go_wp2_with fail
      go_ret
      exact ⟨rfl, by rw [HH.out]; exact bup Q_3 (Nat.le_of_eq HH.out.symm) b9⟩
    have Y1 := AP0.out hz ht h1 h2
    have Y2 := AP1.out hz ht h1 h2
    clear AP0 AP1 T0
    subst hz
    have AP0 : Hid (_) := Y1
    have AP1 : Hid (_) := Y2
    clear Y1 Y2
    have hw1 : IntKind.i64.wrap (t0 + 1) = t0 + 1 := by rw [IntKind.wrap_i64]; omega
    go_upto_region 4 with fail
    try simp only [hw1]
    have hgH := a_3.lt
    generalize hW : w3.alloc (.cells #[.int .i64 (t0 + 1), .int .i64 a1, .int .i64 t0, .slice none 0 0] 29) = W4
    obtain ⟨g_4, bb, -⟩ := boxed hW
    obtain ⟨bg, hb⟩ : ∃ x, w3.heap.size = x := ⟨_, rfl⟩
    rw [hb] at g_4 hgH ⊢
    clear hW
    have a_4 := a_3.below bb a_3.lt
    have R0_4 : Hid (RdE W4 (.slice o0 n0 k0) n0 A0) := R0_3.out.below bb
    have Q_4 := bup Q_3 (Nat.le_of_eq HH.out.symm) bb
    clear ca0 ca1 ca2 la
    clear a_3 R0_3 Q_3 bb hb
    have ca0 := a_4.cell 0 _ rfl
    have ca1 := a_4.cell 1 _ rfl
    have ca2 := a_4.cell 2 _ rfl
    have la := a_4.lt
    have cg0 := g_4.cell 0 _ rfl
    have cg1 := g_4.cell 1 _ rfl
    have cg2 := g_4.cell 2 _ rfl
    have cg3 := g_4.cell 3 _ rfl
    have lg := g_4.lt
    go_wp2_with fail
    refine (AP0.out _ R0_4.out).mono ?_; rintro e w5 ⟨xs, rfl, own, bb⟩
    have Ms : Hid (RdE w5 xs n0 A0) := rdE_pre own
    obtain ⟨os, ks, ev⟩ := own.form
    rw [preE_len] at ev
    clear own
    subst ev
    have a_5 := a_4.below bb a_4.lt
    have g_5 := g_4.below bb g_4.lt
    have R0_5 : Hid (RdE w5 (.slice o0 n0 k0) n0 A0) := R0_4.out.below bb
    have Q_5 := bup Q_4 (Nat.le_of_eq HH.out.symm) bb
    clear ca0 ca1 ca2 la cg0 cg1 cg2 cg3 lg
    clear a_4 g_4 R0_4 Q_4 bb
    have Ms_5 := Ms
    clear Ms AP0
    go_upto_region 5 with fail
    generalize hW : w5.alloc (.cells #[.int .i64 (t0 + 1), .int .i64 a1, .slice os n0 ks] 24) = W6
    obtain ⟨s_6, bb, -⟩ := boxed hW
    obtain ⟨bs, hb⟩ : ∃ x, w5.heap.size = x := ⟨_, rfl⟩
    rw [hb] at s_6  ⊢
    clear hW
    have a_6 := a_5.below bb a_5.lt
    have g_6 := g_5.below bb g_5.lt
    have R0_6 : Hid (RdE W6 (.slice o0 n0 k0) n0 A0) := R0_5.out.below bb
    have Ms_6 : Hid (RdE W6 (.slice os n0 ks) n0 A0) := Ms_5.out.below bb
    have Q_6 := bup Q_5 (Nat.le_of_eq HH.out.symm) bb
    clear a_5 g_5 R0_5 Ms_5 Q_5 bb hb
    have ca0 := a_6.cell 0 _ rfl
    have ca1 := a_6.cell 1 _ rfl
    have ca2 := a_6.cell 2 _ rfl
    have la := a_6.lt
    have cg0 := g_6.cell 0 _ rfl
    have cg1 := g_6.cell 1 _ rfl
    have cg2 := g_6.cell 2 _ rfl
    have cg3 := g_6.cell 3 _ rfl
    have lg := g_6.lt
    have cs0 := s_6.cell 0 _ rfl
    have cs1 := s_6.cell 1 _ rfl
    have cs2 := s_6.cell 2 _ rfl
    have ls := s_6.lt
    go_upto_region 6 with fail
    generalize hW : W6.alloc (.cells #[.int .i64 t0, .int .i64 m0, .slice o0 n0 k0] 24) = Wx
    obtain ⟨x_, bbx, -⟩ := boxed hW
    obtain ⟨bx, hbx⟩ : ∃ x, W6.heap.size = x := ⟨_, rfl⟩
    have HX : Hid (_) := hbx
    rw [hbx] at x_ ⊢
    have ax := a_6.below bbx a_6.lt
    have gx := g_6.below bbx g_6.lt
    have sx := s_6.below bbx s_6.lt
    clear ca0 ca1 ca2 la cg0 cg1 cg2 cg3 lg cs0 cs1 cs2 ls
    have cx0 := x_.cell 0 _ rfl
    have cx1 := x_.cell 1 _ rfl
    have cx2 := x_.cell 2 _ rfl
    have zx0 := x_.froz 0
    have zx1 := x_.froz 1
    have lx := x_.lt
    have cg0 := gx.cell 0 _ rfl
    have lg := gx.lt
    clear hW
    go_upto_region 7 with fail
    generalize hV : (Wx.setCell ⟨bx, 0, none⟩ (.int .i64 (t0 + 1))).setCell ⟨bx, 1, none⟩ (.int .i64 a1) = Wy
    have xy : Blk Wy bx [.int .i64 (t0 + 1), .int .i64 a1, .slice o0 n0 k0] := by rw [← hV]; exact (x_.set 0 _ (by simp)).set 1 _ (by simp)
    have bb : Below W6.heap.size W6 Wy := by rw [← hV]; exact (bbx.setCell (by rw [HX.out]; exact Nat.le_refl _) _).setCell (by rw [HX.out]; exact Nat.le_refl _) _
    clear hV cx0 cx1 cx2 zx0 zx1 lx cg0 lg ax gx sx x_ bbx hbx HX
    have a_7 := a_6.below bb a_6.lt
    have g_7 := g_6.below bb g_6.lt
    have s_7 := s_6.below bb s_6.lt
    have R0_7 : Hid (RdE Wy (.slice o0 n0 k0) n0 A0) := R0_6.out.below bb
    have Ms_7 : Hid (RdE Wy (.slice os n0 ks) n0 A0) := Ms_6.out.below bb
    have Q_7 := bup Q_6 (Nat.le_of_eq HH.out.symm) bb
    clear a_6 g_6 s_6 R0_6 Ms_6 Q_6 bb
    have x_7 := xy
    clear xy
    have cs0 := s_7.cell 0 _ rfl
    have cs1 := s_7.cell 1 _ rfl
    have cs2 := s_7.cell 2 _ rfl
    have ls := s_7.lt
    have cx0 := x_7.cell 0 _ rfl
    have cx1 := x_7.cell 1 _ rfl
    have cx2 := x_7.cell 2 _ rfl
    have lx := x_7.lt
    go_wp2_with fail
    refine (sn_same _ (t0 + 1) a1 _ _ n0 A0 Ms_7.out R0_7.out).mono ?_; rintro e w8 ⟨rfl, bb⟩
    clear s_7
    clear x_7
    clear Ms_7
    have a_8 := a_7.below bb a_7.lt
    have g_8 := g_7.below bb g_7.lt
    have R0_8 : Hid (RdE w8 (.slice o0 n0 k0) n0 A0) := R0_7.out.below bb
    have Q_8 := bup Q_7 (Nat.le_of_eq HH.out.symm) bb
    clear cs0 cs1 cs2 ls cx0 cx1 cx2 lx
    clear a_7 g_7 R0_7 Q_7 bb
    obtain ⟨d, hd⟩ : ∃ d, wrap64 ((IntKind.u64.wrap a2).tmod 65536) = d := ⟨_, rfl⟩
    have HI : Hid (_) := hd
    have dB := id_bd a2
    rw [hd] at dB
    clear hd
    go_upto_region 10 with fail
    simp only [HI.out]
    clear HI
    have ca0 := a_8.cell 0 _ rfl
    have ca1 := a_8.cell 1 _ rfl
    have ca2 := a_8.cell 2 _ rfl
    have la := a_8.lt
    go_wp2_with fail
    refine (FI.out _ _ R0_8.out).mono ?_; rintro e w9 ⟨rfl, bb⟩
    have a_9 := a_8.below bb a_8.lt
    have g_9 := g_8.below bb g_8.lt
    have R0_9 : Hid (RdE w9 (.slice o0 n0 k0) n0 A0) := R0_8.out.below bb
    have Q_9 := bup Q_8 (Nat.le_of_eq HH.out.symm) bb
    clear ca0 ca1 ca2 la
    clear a_8 g_8 R0_8 Q_8 bb
    clear FI
    obtain ⟨th, hth⟩ : ∃ x, isO (findE d (preE A0 n0)) = x := ⟨_, rfl⟩
    obtain ⟨en, hen⟩ : ∃ x, getE (findE d (preE A0 n0)) = x := ⟨_, rfl⟩
    have HTH : Hid (_) := hth
    rw [hth, hen]
    clear hth hen
    obtain ⟨y0, y1, y2, y3, y4, y5, y6, y7, y8⟩ := en
    go_upto_region 11 with fail
    generalize hW : w9.alloc (.cells #[.int .i64 y0, .int .i64 y1, .int .i64 y2, .int .i64 y3, .int .i64 y4, .int .i64 y5, .int .i64 y6, .int .u16 y7, .int .u8 y8] 40) = W10
    obtain ⟨en_10, bb, -⟩ := boxed hW
    obtain ⟨ben, hb⟩ : ∃ x, w9.heap.size = x := ⟨_, rfl⟩
    rw [hb] at en_10  ⊢
    clear hW
    have a_10 := a_9.below bb a_9.lt
    have g_10 := g_9.below bb g_9.lt
    have R0_10 : Hid (RdE W10 (.slice o0 n0 k0) n0 A0) := R0_9.out.below bb
    have Q_10 := bup Q_9 (Nat.le_of_eq HH.out.symm) bb
    clear a_9 g_9 R0_9 Q_9 bb hb
    clear en_10
    go_upto_region 12 with fail
    have hrG := g_10.lt
    generalize hW : W10.alloc (.cells #[.int .i64 0, .int .i64 d, .int .i64 0, .int .i64 0, .int .i64 0, .int .i64 0, .int .i64 0, .int .i64 0, .int .u16 0, .int .i64 1, .int .i64 d, .int .i64 0, .int .i64 0, .int .i64 0, .int .i64 0, .int .i64 0, .int .i64 0, .int .u16 1, .int .i64 2, .int .i64 d, .int .i64 0, .int .i64 0, .int .i64 0, .int .i64 0, .int .i64 0, .int .i64 0, .int .u16 0, .int .i64 3, .int .i64 d, .int .i64 0, .int .i64 0, .int .i64 0, .int .i64 0, .int .i64 0, .int .i64 0, .int .u16 0] 59) = W11
    obtain ⟨r_11, bb, -⟩ := boxed hW
    obtain ⟨br, hb⟩ : ∃ x, W10.heap.size = x := ⟨_, rfl⟩
    rw [hb] at r_11 hrG ⊢
    clear hW
    have a_11 := a_10.below bb a_10.lt
    have g_11 := g_10.below bb g_10.lt
    have R0_11 : Hid (RdE W11 (.slice o0 n0 k0) n0 A0) := R0_10.out.below bb
    have Q_11 := bup Q_10 (Nat.le_of_eq HH.out.symm) bb
    clear a_10 g_10 R0_10 Q_10 bb hb
    obtain ⟨CS, hCS⟩ : ∃ x : List Value, ([.int .i64 0, .int .i64 d, .int .i64 0, .int .i64 0, .int .i64 0, .int .i64 0, .int .i64 0, .int .i64 0, .int .u16 0, .int .i64 1, .int .i64 d, .int .i64 0, .int .i64 0, .int .i64 0, .int .i64 0, .int .i64 0, .int .i64 0, .int .u16 1, .int .i64 2, .int .i64 d, .int .i64 0, .int .i64 0, .int .i64 0, .int .i64 0, .int .i64 0, .int .i64 0, .int .u16 0, .int .i64 3, .int .i64 d, .int .i64 0, .int .i64 0, .int .i64 0, .int .i64 0, .int .i64 0, .int .i64 0, .int .u16 0] : List Value) = x := ⟨_, rfl⟩
    have RRL : Hid (∀ k, k < 4 → ∀ j x, (recC (lesR d k))[j]? = some x → CS[k * 9 + j]? = some x) := fun k hk j x hx => by
      rw [← hCS]
      have hj : j < 9 := by have := (List.getElem?_eq_some_iff.1 hx).1; simpa [recC] using this
      have hk4 : k = 0 ∨ k = 1 ∨ k = 2 ∨ k = 3 := by omega
      have hj9 : j = 0 ∨ j = 1 ∨ j = 2 ∨ j = 3 ∨ j = 4 ∨ j = 5 ∨ j = 6 ∨ j = 7 ∨ j = 8 := by omega
      rcases hk4 with rfl | rfl | rfl | rfl <;> rcases hj9 with rfl | rfl | rfl | rfl | rfl | rfl | rfl | rfl | rfl <;> exact hx
    have r_ : Blk W11 br CS := by rw [← hCS]; exact r_11
    clear hCS r_11
    have lr := r_.lt
    clear R0_11
    go_loopw [87] (fun i wr => ∃ k : Nat, k ≤ 4 ∧ i = .int .i64 k ∧ Blk wr H [.int .i64 t0, .int .i64 m0, .slice o0 n0 k0] ∧ (∃ v, Blk wr bg [.int .i64 (t0 + 1), .int .i64 a1, .int .i64 t0, v]) ∧ Blk wr br CS ∧ Below H w wr) (fun i _ => 4 - (intOf i).toNat)
    case atStart => exact ⟨0, by omega, rfl, a_11, ⟨_, g_11⟩, r_, Q_11⟩
    case round =>
      obtain ⟨k, hk, rfl, qa, ⟨v, qg⟩, qr, q5⟩ := hrel
      clear r_ a_11 g_11 Q_11
      by_cases hlt : k < 4
      · obtain ⟨⟨rk, ri, p0, p1, p2, v0, v1, v2, ra⟩, hr⟩ : ∃ r, lesR d k = r := ⟨_, rfl⟩
        obtain ⟨okr, hcr, hir⟩ := les_ok dB k
        have RL := RRL.out k hlt
        rw [hr] at okr hcr hir RL
        have AR : Hid (∀ w' gv, RdE w' (.slice o0 n0 k0) n0 A0 → RdR w' gv 1 (fun _ => ⟨rk, ri, p0, p1, p2, v0, v1, v2, ra⟩) → Calls Tryz.prog 20 #[snV t0 m0 (.slice o0 n0 k0), gmV ⟨t0 + 1, a1, t0⟩ gv] w' fun e w'' => ∃ (T M f : Int) (o : Option Addr) (n k : Nat), e = .returned (.tuple #[snV T M (.slice o n k), .int .i64 f]) ∧ (th = decide (rk = 0) → f = 15) ∧ (th ≠ decide (rk = 0) → f = 0 ∨ (f = 4 ∧ rk = 0)) ∧ Below w'.heap.size w' w'') := by
          have c := AP1.out _ okr (by rw [hir]; exact dB) hcr
          rw [hir, HTH.out] at c
          exact c
        have c0 : wr.cell? ⟨br, k * 9, none⟩ = some (.int .i64 rk) := qr.cell (k * 9) _ (RL 0 _ rfl)
        have c1 : wr.cell? ⟨br, k * 9 + 1, none⟩ = some (.int .i64 ri) := qr.cell (k * 9 + 1) _ (RL 1 _ rfl)
        have c2 : wr.cell? ⟨br, k * 9 + 2, none⟩ = some (.int .i64 p0) := qr.cell (k * 9 + 2) _ (RL 2 _ rfl)
        have c3 : wr.cell? ⟨br, k * 9 + 3, none⟩ = some (.int .i64 p1) := qr.cell (k * 9 + 3) _ (RL 3 _ rfl)
        have c4 : wr.cell? ⟨br, k * 9 + 4, none⟩ = some (.int .i64 p2) := qr.cell (k * 9 + 4) _ (RL 4 _ rfl)
        have c5 : wr.cell? ⟨br, k * 9 + 5, none⟩ = some (.int .i64 v0) := qr.cell (k * 9 + 5) _ (RL 5 _ rfl)
        have c6 : wr.cell? ⟨br, k * 9 + 6, none⟩ = some (.int .i64 v1) := qr.cell (k * 9 + 6) _ (RL 6 _ rfl)
        have c7 : wr.cell? ⟨br, k * 9 + 7, none⟩ = some (.int .i64 v2) := qr.cell (k * 9 + 7) _ (RL 7 _ rfl)
        have c8 : wr.cell? ⟨br, k * 9 + 8, none⟩ = some (.int .u16 ra) := qr.cell (k * 9 + 8) _ (RL 8 _ rfl)
        have lr := qr.lt
        clear RL okr hcr hir hr
        go_upto_region 14 with fail
        generalize hW : wr.alloc (.cells #[.int .i64 rk, .int .i64 ri, .int .i64 p0, .int .i64 p1, .int .i64 p2, .int .i64 v0, .int .i64 v1, .int .i64 v2, .int .u16 ra] 59) = V1
        obtain ⟨b_1, bb, -⟩ := boxed hW
        have hgx := qg.lt
        have a_1 := qa.below bb qa.lt
        have g_1 := qg.below bb qg.lt
        have r_1 := qr.below bb qr.lt
        have Q_1 := bup q5 (Nat.le_of_eq HH.out.symm) bb
        obtain ⟨bx, hb⟩ : ∃ x, wr.heap.size = x := ⟨_, rfl⟩
        rw [hb] at b_1 hgx ⊢
        clear hW hb bb qa qg qr q5 c0 c1 c2 c3 c4 c5 c6 c7 c8 lr
        have c0 := b_1.cell 0 _ rfl
        have c1 := b_1.cell 1 _ rfl
        have c2 := b_1.cell 2 _ rfl
        have c3 := b_1.cell 3 _ rfl
        have c4 := b_1.cell 4 _ rfl
        have c5 := b_1.cell 5 _ rfl
        have c6 := b_1.cell 6 _ rfl
        have c7 := b_1.cell 7 _ rfl
        have c8 := b_1.cell 8 _ rfl
        have lb := b_1.lt
        have cg3 := g_1.cell 3 _ rfl
        have zg3 := g_1.froz 3
        have lg := g_1.lt
        go_upto_region 15 with fail
        obtain ⟨bn, hn⟩ : ∃ x, V1.heap.size = x := ⟨_, rfl⟩
        have HN : Hid (V1.heap.size = bn) := hn
        rw [hn]
        generalize hV : (V1.setCell ⟨bg, 3, none⟩ (.slice (some ⟨bn, 0, none⟩) 1 1)).alloc (.cells #[.int .i64 rk, .int .i64 ri, .int .i64 p0, .int .i64 p1, .int .i64 p2, .int .i64 v0, .int .i64 v1, .int .i64 v2, .int .u16 ra] 59) = V2
        have a_2 : Blk V2 H [.int .i64 t0, .int .i64 m0, .slice o0 n0 k0] := by rw [← hV]; exact (a_1.other (p := ⟨bg, 3, none⟩) (by show bg ≠ H; omega) _).alloc _
        have g_2 : Blk V2 bg [.int .i64 (t0 + 1), .int .i64 a1, .int .i64 t0, .slice (some ⟨bn, 0, none⟩) 1 1] := by rw [← hV]; exact (g_1.set 3 _ (by simp)).alloc _
        have r_2 : Blk V2 br CS := by rw [← hV]; exact (r_1.other (p := ⟨bg, 3, none⟩) (by show bg ≠ br; omega) _).alloc _
        have b_2 : Blk V2 bx [.int .i64 rk, .int .i64 ri, .int .i64 p0, .int .i64 p1, .int .i64 p2, .int .i64 v0, .int .i64 v1, .int .i64 v2, .int .u16 ra] := by rw [← hV]; exact (b_1.other (p := ⟨bg, 3, none⟩) (by show bg ≠ bx; omega) _).alloc _
        have n_2 : Blk V2 bn [.int .i64 rk, .int .i64 ri, .int .i64 p0, .int .i64 p1, .int .i64 p2, .int .i64 v0, .int .i64 v1, .int .i64 v2, .int .u16 ra] := by rw [← hV]; exact Blk.new _ _ _ (by simp; exact HN.out.symm)
        have Q_2 : Below H w V2 := by rw [← hV]; exact (Q_1.setCell (Nat.le_of_lt hgH) _).alloc (by simp; exact Nat.le_of_lt a_1.lt) _
        have N_2 : Hid (RdR V2 (.slice (some ⟨bn, 0, none⟩) 1 1) 1 (fun _ => ⟨rk, ri, p0, p1, p2, v0, v1, v2, ra⟩)) := ⟨_, _, rfl, Nat.le_refl _, by omega, Or.inr ⟨bn, 0, rfl, fun i hi j x hx => by
          obtain rfl : i = 0 := by omega
          rw [show 0 + 0 * 9 + j = j by omega]
          exact n_2.cell j x hx⟩⟩
        clear hV hn HN n_2 a_1 g_1 r_1 b_1 Q_1 cg3 zg3 lg lb c0 c1 c2 c3 c4 c5 c6 c7 c8
        have ca0 := a_2.cell 0 _ rfl
        have ca1 := a_2.cell 1 _ rfl
        have ca2 := a_2.cell 2 _ rfl
        have la := a_2.lt
        have cg0 := g_2.cell 0 _ rfl
        have cg1 := g_2.cell 1 _ rfl
        have cg2 := g_2.cell 2 _ rfl
        have cg3 := g_2.cell 3 _ rfl
        have lg := g_2.lt
        go_wp2_with fail
        refine (AR.out _ _ (R0w.out.below (by rw [HH.out]; exact Q_2)) N_2.out).mono ?_; rintro e V3 ⟨T, M, f, o, n, kk, rfl, hf1, hf2, bb⟩
        have a_3 := a_2.below bb a_2.lt
        have g_3 := g_2.below bb g_2.lt
        have r_3 := r_2.below bb r_2.lt
        have b_3 := b_2.below bb b_2.lt
        have Q_3 := bup Q_2 (Nat.le_of_eq HH.out.symm) bb
        clear ca0 ca1 ca2 la cg0 cg1 cg2 cg3 lg a_2 g_2 r_2 b_2 Q_2 N_2 bb AR
        go_upto_region 16 with fail
        generalize hV : V3.alloc (.cells #[.int .i64 T, .int .i64 M, .slice o n kk] 24) = V4
        obtain ⟨-, bb, -⟩ := boxed hV
        have a_4 := a_3.below bb a_3.lt
        have g_4 := g_3.below bb g_3.lt
        have r_4 := r_3.below bb r_3.lt
        have b_4 := b_3.below bb b_3.lt
        have Q_4 := bup Q_3 (Nat.le_of_eq HH.out.symm) bb
        clear hV bb a_3 g_3 r_3 b_3 Q_3
        have cb0 := b_4.cell 0 _ rfl
        have lb := b_4.lt
        have hth : th = true ∨ th = false := by cases th <;> simp
        by_cases hk0 : rk = 0
        · rcases hth with ht' | ht'
          · have hf := hf1 (by rw [ht', hk0]; rfl)
            subst hf hk0 ht'
            clear hf1 hf2
            go_wp2_with fail
            go_roundw
            case rel => exact ⟨k + 1, by omega, by go_num, a_4, ⟨_, g_4⟩, r_4, Q_4⟩
            case measure => simp [intOf]; omega
          · have hf := hf2 (by rw [ht', hk0]; decide)
            rcases hf with hf | ⟨hf, -⟩
            · subst hf hk0 ht'
              clear hf1 hf2
              go_wp2_with fail
              go_roundw
              case rel => exact ⟨k + 1, by omega, by go_num, a_4, ⟨_, g_4⟩, r_4, Q_4⟩
              case measure => simp [intOf]; omega
            · subst hf hk0 ht'
              clear hf1 hf2
              go_wp2_with fail
              go_roundw
              case rel => exact ⟨k + 1, by omega, by go_num, a_4, ⟨_, g_4⟩, r_4, Q_4⟩
              case measure => simp [intOf]; omega
        · have hkn : (rk == 0) = false := by simp [hk0]
          rcases hth with ht' | ht'
          · have hf : f = 0 := by
              rcases hf2 (by rw [ht']; simp [hk0]) with h | h
              · exact h
              · exact absurd h.2 hk0
            subst hf ht'
            clear hf1 hf2
            go_wp2_with fail
            go_roundw
            case rel => exact ⟨k + 1, by omega, by go_num, a_4, ⟨_, g_4⟩, r_4, Q_4⟩
            case measure => simp [intOf]; omega
          · have hf := hf1 (by rw [ht']; simp [hk0])
            subst hf ht'
            clear hf1 hf2
            go_wp2_with fail
            go_roundw
            case rel => exact ⟨k + 1, by omega, by go_num, a_4, ⟨_, g_4⟩, r_4, Q_4⟩
            case measure => simp [intOf]; omega
      · obtain rfl : k = 4 := by omega
        go_wp2_with fail
        refine (dl_alive _).mono ?_; rintro e w9 ⟨rfl, b9⟩
        go_wp2_with fail
        go_ret
        exact ⟨rfl, by rw [HH.out]; exact bup q5 (Nat.le_of_eq HH.out.symm) b9⟩
  · -- one is
    go_wp2_with fail
    refine (dl_alive _).mono ?_; rintro e w9 ⟨rfl, b9⟩
    go_wp2_with fail
    go_ret
    exact ⟨rfl, by rw [HH.out]; exact bup Q_2 (Nat.le_of_eq HH.out.symm) b9⟩

set_option maxRecDepth 100000 in
theorem lifted (os : Os) (started : os.Started) (H : Type) (enc : TypeId × Value → H) :
    ReturnsInHanded {} Tryz.checked os 6 .any (Rows.deltaLessSpec.pre6 enc Tryz.prog Tryz.f6 Rows.deltaLessRow.domain false) (Rows.deltaLessSpec.post enc Tryz.prog Tryz.f6 false true false false) := by
  refine returnsInHanded_of_change (C := Tryz.checked) own started (by kernel_rfl) Tryz.func6
    (ChangeSpec.witness6 (enc := enc) (C := Tryz.checked) false ⟨#[], #[.agg #[.int .i64 0, .int .i64 0, .slice none 0 0], .int .i64 0, .int .i64 0], []⟩ 8 (by kernel_rfl) (by kernel_rfl) (by kernel_rfl) (by kernel_rfl)) ?_
  intro W base args ds gs before hval0 hW hcnd _
  have hval : ∀ (j : Nat) t v, Tryz.f6.params[j]? = some t → args[j]? = some v → Value.okWide Tryz.prog W .any base t v := hval0
  have hW' := hW
  obtain ⟨p, q, hA0, hV, rfl, hfz, hnd⟩ := hW
  have hA : DataW.TrodAll enc Tryz.prog W 0 (fun _ => true) true Tryz.f6.params.toList args.toList ds p := hA0
  rw [Tryz.params6] at hA hval
  obtain ⟨v0, vs0, d0, ds0, p0, q0, hargs, rfl, rfl, h0, r0⟩ := trodAll_cons hA
  obtain ⟨v1, vs1, d1, ds1, p1, q1, rfl, rfl, rfl, h1, r1⟩ := trodAll_cons r0
  obtain ⟨v2, vs2, d2, ds2, p2, q2, rfl, rfl, rfl, h2, r2⟩ := trodAll_cons r1
  obtain ⟨rfl, rfl, rfl⟩ := trodAll_nil r2
  obtain rfl : args = #[v0, v1, v2] := by cases args; simp_all
  obtain ⟨rfl, rfl⟩ := trodVars_none hV
  have hlt := hW'.lt
  have k0 := h0
  obtain ⟨t0, m0, u0, n0, A0, e0, st0, sm0, b0, rd0⟩ := open_snap (hval 0 24 v0 rfl rfl) h0
  subst e0
  have k1 := h1
  obtain ⟨a1, rfl, rfl, rfl, w1⟩ := open_int Tryz.underlying2 (hval 1 2 v1 rfl rfl) h1
  have k2 := h2
  obtain ⟨a2, rfl, rfl, rfl, w2⟩ := open_int Tryz.underlying3 (hval 2 3 v2 rfl rfl) h2
  clear hA0 hval0
  refine (walk W t0 m0 u0 n0 A0 st0 sm0 b0 rd0 a1 w1 a2 w2).mono fun e W' ⟨he, hg⟩ => ?_
  subst he
  exact ⟨_, rfl, post_of_below hW' (fun _ _ _ => (trodAll_cons_mk (shut_bool Tryz.underlying4 _) trodAll_mk0)) (trodAll_cons_mk (Below.trod laidOut (by kernel_rfl) (of_decide_eq_true (by kernel_rfl)) k0 hg (fun x hx => by first | exact absurd hx (by simp) | exact hlt x (by simp [hx]))) (trodAll_cons_mk (Below.trod laidOut (by kernel_rfl) (of_decide_eq_true (by kernel_rfl)) k1 hg (fun x hx => by first | exact absurd hx (by simp) | exact hlt x (by simp [hx]))) (trodAll_cons_mk (Below.trod laidOut (by kernel_rfl) (of_decide_eq_true (by kernel_rfl)) k2 hg (fun x hx => by first | exact absurd hx (by simp) | exact hlt x (by simp [hx]))) trodAll_mk0))) rfl hg⟩

theorem over : Rows.deltaLessRow.holds Tryz.pinned (OpenSpec.ofChange Rows.deltaLessSpec) :=
  OpenClaim.holds_of_wide 6 Tryz.f6 rfl rfl rfl rfl rfl rfl rfl ⟨rfl, rfl, rfl, rfl, rfl⟩ rfl rfl rfl rfl rfl (by kernel_rfl) Tryz.func6 (by kernel_rfl)
    (of_decide_eq_true (by kernel_rfl)) (by unfold Func.isWrapper; first | (rw [if_pos (by decide +kernel)]; kernel_rfl) | (rw [if_neg (by decide +kernel)]; exact ⟨rfl, rfl⟩))
    (fun os started H enc _ => lifted os started H enc)
end DeltaLessL

theorem deltaLess_proved : Rows.DeltaLessSaid := DeltaLessL.over
#print axioms deltaLess_proved
end Go.Proofs.YtfoblmambbfphaaGreat
