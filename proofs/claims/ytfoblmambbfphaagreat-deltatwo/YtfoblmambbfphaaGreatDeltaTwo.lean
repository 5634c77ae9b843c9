/-
  Proved: told by way of a third one, a snapshot is the same as told at once (the law DeltaTwo answers true at every input).
  Conditions: none.
-/
import Derived.Test.YtfoblmambbfphaaGreatRows
import Derived.Test.YtfoblmambbfphaaGreatP27
namespace Go.Proofs.YtfoblmambbfphaaGreat
open Go.ChangeShapes Go.WideShapes Go.ChangeAt Go.RowKit
set_option linter.unusedVariables false

namespace DeltaTwoL
theorem own : ownKnob Tryz.prog.godebug = none := by kernel_rfl

set_option maxRecDepth 20000 in
set_option maxHeartbeats 8000000 in
theorem walk (w : World) (t0 m0 : Int) (u0 : Value) (n0 : Nat) (A0 : Nat → En) (_ : S64 t0) (_ : S64 m0) (e0 : ∀ i, i < n0 → (A0 i).ok) (r0 : RdE w u0 n0 A0)
    (t1 m1 : Int) (u1 : Value) (n1 : Nat) (A1 : Nat → En) (_ : S64 t1) (_ : S64 m1) (e1 : ∀ i, i < n1 → (A1 i).ok) (r1 : RdE w u1 n1 A1)
    (t2 m2 : Int) (u2 : Value) (n2 : Nat) (A2 : Nat → En) (_ : S64 t2) (_ : S64 m2) (e2 : ∀ i, i < n2 → (A2 i).ok) (r2 : RdE w u2 n2 A2) :
    Calls Tryz.prog 7 #[snV t0 m0 u0, snV t1 m1 u1, snV t2 m2 u2] w fun e w' => e = .returned (.bool true) ∧ Below w.heap.size w w' := by
  have E0 : Hid (∀ i, i < n0 → (A0 i).ok) := e0
  have R0 : Hid (RdE w u0 n0 A0) := r0
  obtain ⟨o0, k0, q0, hc0, hm0, _⟩ := r0
  subst q0
  have E1 : Hid (∀ i, i < n1 → (A1 i).ok) := e1
  have R1 : Hid (RdE w u1 n1 A1) := r1
  obtain ⟨o1, k1, q1, hc1, hm1, _⟩ := r1
  subst q1
  have E2 : Hid (∀ i, i < n2 → (A2 i).ok) := e2
  have R2 : Hid (RdE w u2 n2 A2) := r2
  obtain ⟨o2, k2, q2, hc2, hm2, _⟩ := r2
  subst q2
  have D01 : Hid (∀ w', RdE w' (.slice o0 n0 k0) n0 A0 → RdE w' (.slice o1 n1 k1) n1 A1 → Calls Tryz.prog 11 #[snV t0 m0 (.slice o0 n0 k0), snV t1 m1 (.slice o1 n1 k1)] w' fun e w'' => ∃ u, e = .returned (.tuple #[gmV (dlG t0 m0 (preE A0 n0) t1 m1 (preE A1 n1)) u, .int .i64 (dlE t0 m0 (preE A0 n0) t1 m1 (preE A1 n1))]) ∧ OwnR w'' w'.heap.size u (dlL t0 m0 (preE A0 n0) t1 m1 (preE A1 n1)) ∧ Below w'.heap.size w' w'') := fun w' h h' => dl_diff w' t0 m0 _ n0 A0 E0.out h t1 m1 _ n1 A1 h'
  have G01 : Hid (dlE t0 m0 (preE A0 n0) t1 m1 (preE A1 n1) = 0 → dlG t0 m0 (preE A0 n0) t1 m1 (preE A1 n1) = ⟨t1, m1, t0⟩) := dl_head
  have Z01 : Hid (dlE t0 m0 (preE A0 n0) t1 m1 (preE A1 n1) = 0 → ∀ w' v gv, RdE w' v n0 A0 → RdR w' gv (dlL t0 m0 (preE A0 n0) t1 m1 (preE A1 n1)).length (atR (dlL t0 m0 (preE A0 n0) t1 m1 (preE A1 n1))) → Calls Tryz.prog 20 #[snV t0 m0 v, gmV ⟨t1, m1, t0⟩ gv] w' fun e w'' => ∃ u, e = .returned (.tuple #[snV t1 m1 u, .int .i64 0]) ∧ OwnE w'' w'.heap.size u (preE A1 n1) ∧ Below w'.heap.size w' w'') := fun h w' v gv h1 h2 => dl_again w' t0 m0 v n0 A0 E0.out h1 t1 m1 n1 A1 E1.out _ h rfl gv h2
  obtain ⟨g01, hg⟩ : ∃ x, dlG t0 m0 (preE A0 n0) t1 m1 (preE A1 n1) = x := ⟨_, rfl⟩
  obtain ⟨f01, hf⟩ : ∃ x, dlE t0 m0 (preE A0 n0) t1 m1 (preE A1 n1) = x := ⟨_, rfl⟩
  obtain ⟨L01, hl⟩ : ∃ x, dlL t0 m0 (preE A0 n0) t1 m1 (preE A1 n1) = x := ⟨_, rfl⟩
  rw [hg, hf, hl] at D01
  rw [hg, hf] at G01
  rw [hf, hl] at Z01
  clear hg hf hl
  obtain ⟨g01a, g01b, g01c⟩ := g01
  have D12 : Hid (∀ w', RdE w' (.slice o1 n1 k1) n1 A1 → RdE w' (.slice o2 n2 k2) n2 A2 → Calls Tryz.prog 11 #[snV t1 m1 (.slice o1 n1 k1), snV t2 m2 (.slice o2 n2 k2)] w' fun e w'' => ∃ u, e = .returned (.tuple #[gmV (dlG t1 m1 (preE A1 n1) t2 m2 (preE A2 n2)) u, .int .i64 (dlE t1 m1 (preE A1 n1) t2 m2 (preE A2 n2))]) ∧ OwnR w'' w'.heap.size u (dlL t1 m1 (preE A1 n1) t2 m2 (preE A2 n2)) ∧ Below w'.heap.size w' w'') := fun w' h h' => dl_diff w' t1 m1 _ n1 A1 E1.out h t2 m2 _ n2 A2 h'
  have G12 : Hid (dlE t1 m1 (preE A1 n1) t2 m2 (preE A2 n2) = 0 → dlG t1 m1 (preE A1 n1) t2 m2 (preE A2 n2) = ⟨t2, m2, t1⟩) := dl_head
  have Z12 : Hid (dlE t1 m1 (preE A1 n1) t2 m2 (preE A2 n2) = 0 → ∀ w' v gv, RdE w' v n1 A1 → RdR w' gv (dlL t1 m1 (preE A1 n1) t2 m2 (preE A2 n2)).length (atR (dlL t1 m1 (preE A1 n1) t2 m2 (preE A2 n2))) → Calls Tryz.prog 20 #[snV t1 m1 v, gmV ⟨t2, m2, t1⟩ gv] w' fun e w'' => ∃ u, e = .returned (.tuple #[snV t2 m2 u, .int .i64 0]) ∧ OwnE w'' w'.heap.size u (preE A2 n2) ∧ Below w'.heap.size w' w'') := fun h w' v gv h1 h2 => dl_again w' t1 m1 v n1 A1 E1.out h1 t2 m2 n2 A2 E2.out _ h rfl gv h2
  obtain ⟨g12, hg⟩ : ∃ x, dlG t1 m1 (preE A1 n1) t2 m2 (preE A2 n2) = x := ⟨_, rfl⟩
  obtain ⟨f12, hf⟩ : ∃ x, dlE t1 m1 (preE A1 n1) t2 m2 (preE A2 n2) = x := ⟨_, rfl⟩
  obtain ⟨L12, hl⟩ : ∃ x, dlL t1 m1 (preE A1 n1) t2 m2 (preE A2 n2) = x := ⟨_, rfl⟩
  rw [hg, hf, hl] at D12
  rw [hg, hf] at G12
  rw [hf, hl] at Z12
  clear hg hf hl
  obtain ⟨g12a, g12b, g12c⟩ := g12
  have D02 : Hid (∀ w', RdE w' (.slice o0 n0 k0) n0 A0 → RdE w' (.slice o2 n2 k2) n2 A2 → Calls Tryz.prog 11 #[snV t0 m0 (.slice o0 n0 k0), snV t2 m2 (.slice o2 n2 k2)] w' fun e w'' => ∃ u, e = .returned (.tuple #[gmV (dlG t0 m0 (preE A0 n0) t2 m2 (preE A2 n2)) u, .int .i64 (dlE t0 m0 (preE A0 n0) t2 m2 (preE A2 n2))]) ∧ OwnR w'' w'.heap.size u (dlL t0 m0 (preE A0 n0) t2 m2 (preE A2 n2)) ∧ Below w'.heap.size w' w'') := fun w' h h' => dl_diff w' t0 m0 _ n0 A0 E0.out h t2 m2 _ n2 A2 h'
  have G02 : Hid (dlE t0 m0 (preE A0 n0) t2 m2 (preE A2 n2) = 0 → dlG t0 m0 (preE A0 n0) t2 m2 (preE A2 n2) = ⟨t2, m2, t0⟩) := dl_head
  have Z02 : Hid (dlE t0 m0 (preE A0 n0) t2 m2 (preE A2 n2) = 0 → ∀ w' v gv, RdE w' v n0 A0 → RdR w' gv (dlL t0 m0 (preE A0 n0) t2 m2 (preE A2 n2)).length (atR (dlL t0 m0 (preE A0 n0) t2 m2 (preE A2 n2))) → Calls Tryz.prog 20 #[snV t0 m0 v, gmV ⟨t2, m2, t0⟩ gv] w' fun e w'' => ∃ u, e = .returned (.tuple #[snV t2 m2 u, .int .i64 0]) ∧ OwnE w'' w'.heap.size u (preE A2 n2) ∧ Below w'.heap.size w' w'') := fun h w' v gv h1 h2 => dl_again w' t0 m0 v n0 A0 E0.out h1 t2 m2 n2 A2 E2.out _ h rfl gv h2
  obtain ⟨g02, hg⟩ : ∃ x, dlG t0 m0 (preE A0 n0) t2 m2 (preE A2 n2) = x := ⟨_, rfl⟩
  obtain ⟨f02, hf⟩ : ∃ x, dlE t0 m0 (preE A0 n0) t2 m2 (preE A2 n2) = x := ⟨_, rfl⟩
  obtain ⟨L02, hl⟩ : ∃ x, dlL t0 m0 (preE A0 n0) t2 m2 (preE A2 n2) = x := ⟨_, rfl⟩
  rw [hg, hf, hl] at D02
  rw [hg, hf] at G02
  rw [hf, hl] at Z02
  clear hg hf hl
  obtain ⟨g02a, g02b, g02c⟩ := g02
  clear e0 e1 e2
  go_enter Tryz.func7, Tryz.ntmps7
  go_upto_region 1 with fail
  generalize hW : ((w.alloc (.cells #[.int .i64 t0, .int .i64 m0, .slice o0 n0 k0] 24)).alloc (.cells #[.int .i64 t1, .int .i64 m1, .slice o1 n1 k1] 24)).alloc (.cells #[.int .i64 t2, .int .i64 m2, .slice o2 n2 k2] 24) = W0
  obtain ⟨a_0, b_0, c_0, bb, -⟩ := boxed3 hW
  obtain ⟨H, hH⟩ : ∃ H, w.heap.size = H := ⟨_, rfl⟩
  have HH : Hid (w.heap.size = H) := hH
  have R0_0 : Hid (RdE W0 (.slice o0 n0 k0) n0 A0) := R0.out.below bb
  have R1_0 : Hid (RdE W0 (.slice o1 n1 k1) n1 A1) := R1.out.below bb
  have R2_0 : Hid (RdE W0 (.slice o2 n2 k2) n2 A2) := R2.out.below bb
  rw [hH] at a_0 b_0 c_0 bb
  rw [hH]
  have Q_0 := bb
  clear hW hH bb R0 R1 R2
  have ca0 := a_0.cell 0 _ rfl
  have ca1 := a_0.cell 1 _ rfl
  have ca2 := a_0.cell 2 _ rfl
  have la := a_0.lt
  have cb0 := b_0.cell 0 _ rfl
  have cb1 := b_0.cell 1 _ rfl
  have cb2 := b_0.cell 2 _ rfl
  have lb := b_0.lt
  have cc0 := c_0.cell 0 _ rfl
  have cc1 := c_0.cell 1 _ rfl
  have cc2 := c_0.cell 2 _ rfl
  have lc := c_0.lt
  go_wp2_with fail
  generalize hW : W0.alloc (.cells #[.int .i64 t0, .int .i64 m0, .slice o0 n0 k0, .int .i64 t1, .int .i64 m1, .slice o1 n1 k1, .int .i64 t2, .int .i64 m2, .slice o2 n2 k2] 24) = W1
  obtain ⟨s_1, bb, -⟩ := boxed hW
  obtain ⟨bs, hb⟩ : ∃ x, W0.heap.size = x := ⟨_, rfl⟩
  rw [hb] at s_1 ⊢
  clear hW
  have a_1 := a_0.below bb a_0.lt
  have b_1 := b_0.below bb b_0.lt
  have c_1 := c_0.below bb c_0.lt
  have R0_1 : Hid (RdE W1 (.slice o0 n0 k0) n0 A0) := R0_0.out.below bb
  have R1_1 : Hid (RdE W1 (.slice o1 n1 k1) n1 A1) := R1_0.out.below bb
  have R2_1 : Hid (RdE W1 (.slice o2 n2 k2) n2 A2) := R2_0.out.below bb
  have Q_1 := bup Q_0 (Nat.le_of_eq HH.out.symm) bb
  clear ca0 ca1 ca2 la cb0 cb1 cb2 lb cc0 cc1 cc2 lc
  clear a_0 b_0 c_0 R0_0 R1_0 R2_0 Q_0 bb hb
  obtain ⟨q, hq⟩ : ∃ q : Bool, q = true ↔ ∃ k, k < 3 ∧ 100 < (fun k : Nat => match k with | 0 => n0 | 1 => n1 | _ => n2) k := by
    by_cases h : ∃ k, k < 3 ∧ 100 < (fun k : Nat => match k with | 0 => n0 | 1 => n1 | _ => n2) k
    · exact ⟨true, fun _ => h, fun _ => rfl⟩
    · exact ⟨false, fun h' => (by cases h'), fun h' => absurd h' h⟩
  have HGR : Hid (Calls Tryz.prog 9 #[.slice (some ⟨bs, 0, none⟩) 3 3] W1 fun e w' => e = .returned (.bool q) ∧ Below W1.heap.size W1 w') := dl_great W1 bs 3 3 (by omega) (by omega) (fun k => match k with | 0 => t0 | 1 => t1 | _ => t2) (fun k => match k with | 0 => m0 | 1 => m1 | _ => m2) (fun k => match k with | 0 => o0 | 1 => o1 | _ => o2) (fun k => match k with | 0 => n0 | 1 => n1 | _ => n2) (fun k => match k with | 0 => k0 | 1 => k1 | _ => k2) q hq (fun k hk => by
    match k, hk with
    | 0, _ => exact ⟨s_1.cell 0 _ rfl, s_1.cell 1 _ rfl, s_1.cell 2 _ rfl⟩
    | 1, _ => exact ⟨s_1.cell 3 _ rfl, s_1.cell 4 _ rfl, s_1.cell 5 _ rfl⟩
    | 2, _ => exact ⟨s_1.cell 6 _ rfl, s_1.cell 7 _ rfl, s_1.cell 8 _ rfl⟩)
  clear hq
  refine (HGR.out).mono ?_; rintro e w2 ⟨rfl, bb⟩
  clear s_1
  have a_2 := a_1.below bb a_1.lt
  have b_2 := b_1.below bb b_1.lt
  have c_2 := c_1.below bb c_1.lt
  have R0_2 : Hid (RdE w2 (.slice o0 n0 k0) n0 A0) := R0_1.out.below bb
  have R1_2 : Hid (RdE w2 (.slice o1 n1 k1) n1 A1) := R1_1.out.below bb
  have R2_2 : Hid (RdE w2 (.slice o2 n2 k2) n2 A2) := R2_1.out.below bb
  have Q_2 := bup Q_1 (Nat.le_of_eq HH.out.symm) bb
  clear a_1 b_1 c_1 R0_1 R1_1 R2_1 Q_1 bb
  clear HGR
  cases q
  · -- none is more than is looked at
    have ca0 := a_2.cell 0 _ rfl
    have ca1 := a_2.cell 1 _ rfl
    have ca2 := a_2.cell 2 _ rfl
    have la := a_2.lt
    have cb0 := b_2.cell 0 _ rfl
    have cb1 := b_2.cell 1 _ rfl
    have cb2 := b_2.cell 2 _ rfl
    have lb := b_2.lt
    go_wp2_with fail
    refine (D01.out _ R0_2.out R1_2.out).mono ?_; rintro e w3 ⟨v01, rfl, own, bb⟩
    have N01 : Hid (RdR w3 v01 L01.length (atR L01)) := own.atR
    obtain ⟨p01, y01, ev⟩ := own.form
    obtain ⟨l01, hl⟩ : ∃ x, L01.length = x := ⟨_, rfl⟩
    have HL01 : Hid (L01.length = l01) := hl
    rw [hl] at ev
    clear own hl
    subst ev
    have a_3 := a_2.below bb a_2.lt
    have b_3 := b_2.below bb b_2.lt
    have c_3 := c_2.below bb c_2.lt
    have R0_3 : Hid (RdE w3 (.slice o0 n0 k0) n0 A0) := R0_2.out.below bb
    have R1_3 : Hid (RdE w3 (.slice o1 n1 k1) n1 A1) := R1_2.out.below bb
    have R2_3 : Hid (RdE w3 (.slice o2 n2 k2) n2 A2) := R2_2.out.below bb
    have Q_3 := bup Q_2 (Nat.le_of_eq HH.out.symm) bb
    clear ca0 ca1 ca2 la cb0 cb1 cb2 lb
    clear a_2 b_2 c_2 R0_2 R1_2 R2_2 Q_2 bb
    have N01_3 := N01
    clear N01 D01
    go_upto_region 4 with fail
    generalize hW : w3.alloc (.cells #[.int .i64 g01a, .int .i64 g01b, .int .i64 g01c, .slice p01 l01 y01] 29) = W4
    obtain ⟨g_4, bb, -⟩ := boxed hW
    obtain ⟨bg, hb⟩ : ∃ x, w3.heap.size = x := ⟨_, rfl⟩
    rw [hb] at g_4 ⊢
    clear hW
    have a_4 := a_3.below bb a_3.lt
    have b_4 := b_3.below bb b_3.lt
    have c_4 := c_3.below bb c_3.lt
    have R0_4 : Hid (RdE W4 (.slice o0 n0 k0) n0 A0) := R0_3.out.below bb
    have R1_4 : Hid (RdE W4 (.slice o1 n1 k1) n1 A1) := R1_3.out.below bb
    have R2_4 : Hid (RdE W4 (.slice o2 n2 k2) n2 A2) := R2_3.out.below bb
    have N01_4 : Hid (RdR W4 (.slice p01 l01 y01) L01.length (atR L01)) := N01_3.out.below bb
    have Q_4 := bup Q_3 (Nat.le_of_eq HH.out.symm) bb
    clear a_3 b_3 c_3 R0_3 R1_3 R2_3 N01_3 Q_3 bb hb
    have cb0 := b_4.cell 0 _ rfl
    have cb1 := b_4.cell 1 _ rfl
    have cb2 := b_4.cell 2 _ rfl
    have lb := b_4.lt
    have cc0 := c_4.cell 0 _ rfl
    have cc1 := c_4.cell 1 _ rfl
    have cc2 := c_4.cell 2 _ rfl
    have lc := c_4.lt
    go_wp2_with fail
    refine (D12.out _ R1_4.out R2_4.out).mono ?_; rintro e w5 ⟨v12, rfl, own, bb⟩
    have N12 : Hid (RdR w5 v12 L12.length (atR L12)) := own.atR
    obtain ⟨p12, y12, ev⟩ := own.form
    obtain ⟨l12, hl⟩ : ∃ x, L12.length = x := ⟨_, rfl⟩
    have HL12 : Hid (L12.length = l12) := hl
    rw [hl] at ev
    clear own hl
    subst ev
    have a_5 := a_4.below bb a_4.lt
    have b_5 := b_4.below bb b_4.lt
    have c_5 := c_4.below bb c_4.lt
    have g_5 := g_4.below bb g_4.lt
    have R0_5 : Hid (RdE w5 (.slice o0 n0 k0) n0 A0) := R0_4.out.below bb
    have R1_5 : Hid (RdE w5 (.slice o1 n1 k1) n1 A1) := R1_4.out.below bb
    have R2_5 : Hid (RdE w5 (.slice o2 n2 k2) n2 A2) := R2_4.out.below bb
    have N01_5 : Hid (RdR w5 (.slice p01 l01 y01) L01.length (atR L01)) := N01_4.out.below bb
    have Q_5 := bup Q_4 (Nat.le_of_eq HH.out.symm) bb
    clear cb0 cb1 cb2 lb cc0 cc1 cc2 lc
    clear a_4 b_4 c_4 g_4 R0_4 R1_4 R2_4 N01_4 Q_4 bb
    have N12_5 := N12
    clear N12 D12
    go_upto_region 5 with fail
    generalize hW : w5.alloc (.cells #[.int .i64 g12a, .int .i64 g12b, .int .i64 g12c, .slice p12 l12 y12] 29) = W6
    obtain ⟨h_6, bb, -⟩ := boxed hW
    obtain ⟨bh, hb⟩ : ∃ x, w5.heap.size = x := ⟨_, rfl⟩
    rw [hb] at h_6 ⊢
    clear hW
    have a_6 := a_5.below bb a_5.lt
    have b_6 := b_5.below bb b_5.lt
    have c_6 := c_5.below bb c_5.lt
    have g_6 := g_5.below bb g_5.lt
    have R0_6 : Hid (RdE W6 (.slice o0 n0 k0) n0 A0) := R0_5.out.below bb
    have R1_6 : Hid (RdE W6 (.slice o1 n1 k1) n1 A1) := R1_5.out.below bb
    have R2_6 : Hid (RdE W6 (.slice o2 n2 k2) n2 A2) := R2_5.out.below bb
    have N01_6 : Hid (RdR W6 (.slice p01 l01 y01) L01.length (atR L01)) := N01_5.out.below bb
    have N12_6 : Hid (RdR W6 (.slice p12 l12 y12) L12.length (atR L12)) := N12_5.out.below bb
    have Q_6 := bup Q_5 (Nat.le_of_eq HH.out.symm) bb
    clear a_5 b_5 c_5 g_5 R0_5 R1_5 R2_5 N01_5 N12_5 Q_5 bb hb
    have ca0 := a_6.cell 0 _ rfl
    have ca1 := a_6.cell 1 _ rfl
    have ca2 := a_6.cell 2 _ rfl
    have la := a_6.lt
    have cc0 := c_6.cell 0 _ rfl
    have cc1 := c_6.cell 1 _ rfl
    have cc2 := c_6.cell 2 _ rfl
    have lc := c_6.lt
    go_wp2_with fail
    refine (D02.out _ R0_6.out R2_6.out).mono ?_; rintro e w7 ⟨v02, rfl, own, bb⟩
    have N02 : Hid (RdR w7 v02 L02.length (atR L02)) := own.atR
    obtain ⟨p02, y02, ev⟩ := own.form
    obtain ⟨l02, hl⟩ : ∃ x, L02.length = x := ⟨_, rfl⟩
    have HL02 : Hid (L02.length = l02) := hl
    rw [hl] at ev
    clear own hl
    subst ev
    have a_7 := a_6.below bb a_6.lt
    have b_7 := b_6.below bb b_6.lt
    have c_7 := c_6.below bb c_6.lt
    have g_7 := g_6.below bb g_6.lt
    have h_7 := h_6.below bb h_6.lt
    have R0_7 : Hid (RdE w7 (.slice o0 n0 k0) n0 A0) := R0_6.out.below bb
    have R1_7 : Hid (RdE w7 (.slice o1 n1 k1) n1 A1) := R1_6.out.below bb
    have R2_7 : Hid (RdE w7 (.slice o2 n2 k2) n2 A2) := R2_6.out.below bb
    have N01_7 : Hid (RdR w7 (.slice p01 l01 y01) L01.length (atR L01)) := N01_6.out.below bb
    have N12_7 : Hid (RdR w7 (.slice p12 l12 y12) L12.length (atR L12)) := N12_6.out.below bb
    have Q_7 := bup Q_6 (Nat.le_of_eq HH.out.symm) bb
    clear ca0 ca1 ca2 la cc0 cc1 cc2 lc
    clear a_6 b_6 c_6 g_6 h_6 R0_6 R1_6 R2_6 N01_6 N12_6 Q_6 bb
    have N02_7 := N02
    clear N02 D02
    go_upto_region 6 with fail
    generalize hW : w7.alloc (.cells #[.int .i64 g02a, .int .i64 g02b, .int .i64 g02c, .slice p02 l02 y02] 29) = W8
    obtain ⟨i_8, bb, -⟩ := boxed hW
    obtain ⟨bi, hb⟩ : ∃ x, w7.heap.size = x := ⟨_, rfl⟩
    rw [hb] at i_8 ⊢
    clear hW
    have a_8 := a_7.below bb a_7.lt
    have b_8 := b_7.below bb b_7.lt
    have c_8 := c_7.below bb c_7.lt
    have g_8 := g_7.below bb g_7.lt
    have h_8 := h_7.below bb h_7.lt
    have R0_8 : Hid (RdE W8 (.slice o0 n0 k0) n0 A0) := R0_7.out.below bb
    have R1_8 : Hid (RdE W8 (.slice o1 n1 k1) n1 A1) := R1_7.out.below bb
    have R2_8 : Hid (RdE W8 (.slice o2 n2 k2) n2 A2) := R2_7.out.below bb
    have N01_8 : Hid (RdR W8 (.slice p01 l01 y01) L01.length (atR L01)) := N01_7.out.below bb
    have N12_8 : Hid (RdR W8 (.slice p12 l12 y12) L12.length (atR L12)) := N12_7.out.below bb
    have N02_8 : Hid (RdR W8 (.slice p02 l02 y02) L02.length (atR L02)) := N02_7.out.below bb
    have Q_8 := bup Q_7 (Nat.le_of_eq HH.out.symm) bb
    clear a_7 b_7 c_7 g_7 h_7 R0_7 R1_7 R2_7 N01_7 N12_7 N02_7 Q_7 bb hb
    by_cases hz01 : f01 = 0
    · by_cases hz12 : f12 = 0
      · by_cases hz02 : f02 = 0
        · have hg01 := G01.out hz01
          injection hg01 with ha01 hb01 hc01
          have Y01 := Z01.out hz01
          clear Z01 G01
          replace ha01 := ha01.symm; replace hb01 := hb01.symm; replace hc01 := hc01.symm
          subst ha01 hb01 hc01 hz01
          have X01 : Hid (_) := Y01
          clear Y01
          have hg12 := G12.out hz12
          injection hg12 with ha12 hb12 hc12
          have Y12 := Z12.out hz12
          clear Z12 G12
          replace ha12 := ha12.symm; replace hb12 := hb12.symm; replace hc12 := hc12.symm
          subst ha12 hb12 hc12 hz12
          have X12 : Hid (_) := Y12
          clear Y12
          have hg02 := G02.out hz02
          injection hg02 with ha02 hb02 hc02
          have Y02 := Z02.out hz02
          clear Z02 G02
          replace ha02 := ha02.symm; replace hb02 := hb02.symm; replace hc02 := hc02.symm
          subst ha02 hb02 hc02 hz02
          have X02 : Hid (_) := Y02
          clear Y02
          have ca0 := a_8.cell 0 _ rfl
          have ca1 := a_8.cell 1 _ rfl
          have ca2 := a_8.cell 2 _ rfl
          have la := a_8.lt
          have cg0 := g_8.cell 0 _ rfl
          have cg1 := g_8.cell 1 _ rfl
          have cg2 := g_8.cell 2 _ rfl
          have cg3 := g_8.cell 3 _ rfl
          have lg := g_8.lt
          go_wp2_with fail
          refine (X01.out _ _ _ R0_8.out N01_8.out).mono ?_; rintro e w9 ⟨xs, rfl, own, bb⟩
          have Ms : Hid (RdE w9 xs n1 A1) := rdE_pre own
          obtain ⟨os, ks, ev⟩ := own.form
          rw [preE_len] at ev
          clear own
          subst ev
          have a_9 := a_8.below bb a_8.lt
          have b_9 := b_8.below bb b_8.lt
          have c_9 := c_8.below bb c_8.lt
          have g_9 := g_8.below bb g_8.lt
          have h_9 := h_8.below bb h_8.lt
          have i_9 := i_8.below bb i_8.lt
          have R0_9 : Hid (RdE w9 (.slice o0 n0 k0) n0 A0) := R0_8.out.below bb
          have R1_9 : Hid (RdE w9 (.slice o1 n1 k1) n1 A1) := R1_8.out.below bb
          have R2_9 : Hid (RdE w9 (.slice o2 n2 k2) n2 A2) := R2_8.out.below bb
          have N01_9 : Hid (RdR w9 (.slice p01 l01 y01) L01.length (atR L01)) := N01_8.out.below bb
          have N12_9 : Hid (RdR w9 (.slice p12 l12 y12) L12.length (atR L12)) := N12_8.out.below bb
          have N02_9 : Hid (RdR w9 (.slice p02 l02 y02) L02.length (atR L02)) := N02_8.out.below bb
          have Q_9 := bup Q_8 (Nat.le_of_eq HH.out.symm) bb
          clear ca0 ca1 ca2 la cg0 cg1 cg2 cg3 lg
          clear a_8 b_8 c_8 g_8 h_8 i_8 R0_8 R1_8 R2_8 N01_8 N12_8 N02_8 Q_8 bb
          have Ms_9 := Ms
          clear Ms
          go_upto_region 9 with fail
          generalize hW : w9.alloc (.cells #[.int .i64 t1, .int .i64 m1, .slice os n1 ks] 24) = W10
          obtain ⟨s_10, bb, -⟩ := boxed hW
          obtain ⟨bs, hb⟩ : ∃ x, w9.heap.size = x := ⟨_, rfl⟩
          rw [hb] at s_10 ⊢
          clear hW
          have a_10 := a_9.below bb a_9.lt
          have b_10 := b_9.below bb b_9.lt
          have c_10 := c_9.below bb c_9.lt
          have g_10 := g_9.below bb g_9.lt
          have h_10 := h_9.below bb h_9.lt
          have i_10 := i_9.below bb i_9.lt
          have R0_10 : Hid (RdE W10 (.slice o0 n0 k0) n0 A0) := R0_9.out.below bb
          have R1_10 : Hid (RdE W10 (.slice o1 n1 k1) n1 A1) := R1_9.out.below bb
          have R2_10 : Hid (RdE W10 (.slice o2 n2 k2) n2 A2) := R2_9.out.below bb
          have N01_10 : Hid (RdR W10 (.slice p01 l01 y01) L01.length (atR L01)) := N01_9.out.below bb
          have N12_10 : Hid (RdR W10 (.slice p12 l12 y12) L12.length (atR L12)) := N12_9.out.below bb
          have N02_10 : Hid (RdR W10 (.slice p02 l02 y02) L02.length (atR L02)) := N02_9.out.below bb
          have Ms_10 : Hid (RdE W10 (.slice os n1 ks) n1 A1) := Ms_9.out.below bb
          have Q_10 := bup Q_9 (Nat.le_of_eq HH.out.symm) bb
          clear a_9 b_9 c_9 g_9 h_9 i_9 R0_9 R1_9 R2_9 N01_9 N12_9 N02_9 Ms_9 Q_9 bb hb
          have cs0 := s_10.cell 0 _ rfl
          have cs1 := s_10.cell 1 _ rfl
          have cs2 := s_10.cell 2 _ rfl
          have ls := s_10.lt
          have ch0 := h_10.cell 0 _ rfl
          have ch1 := h_10.cell 1 _ rfl
          have ch2 := h_10.cell 2 _ rfl
          have ch3 := h_10.cell 3 _ rfl
          have lh := h_10.lt
          go_wp2_with fail
          refine (X12.out _ _ _ Ms_10.out N12_10.out).mono ?_; rintro e w11 ⟨xt, rfl, own, bb⟩
          have Mt : Hid (RdE w11 xt n2 A2) := rdE_pre own
          obtain ⟨ot, kt, ev⟩ := own.form
          rw [preE_len] at ev
          clear own
          subst ev
          have a_11 := a_10.below bb a_10.lt
          have b_11 := b_10.below bb b_10.lt
          have c_11 := c_10.below bb c_10.lt
          have g_11 := g_10.below bb g_10.lt
          have h_11 := h_10.below bb h_10.lt
          have i_11 := i_10.below bb i_10.lt
          have s_11 := s_10.below bb s_10.lt
          have R0_11 : Hid (RdE w11 (.slice o0 n0 k0) n0 A0) := R0_10.out.below bb
          have R1_11 : Hid (RdE w11 (.slice o1 n1 k1) n1 A1) := R1_10.out.below bb
          have R2_11 : Hid (RdE w11 (.slice o2 n2 k2) n2 A2) := R2_10.out.below bb
          have N01_11 : Hid (RdR w11 (.slice p01 l01 y01) L01.length (atR L01)) := N01_10.out.below bb
          have N12_11 : Hid (RdR w11 (.slice p12 l12 y12) L12.length (atR L12)) := N12_10.out.below bb
          have N02_11 : Hid (RdR w11 (.slice p02 l02 y02) L02.length (atR L02)) := N02_10.out.below bb
          have Ms_11 : Hid (RdE w11 (.slice os n1 ks) n1 A1) := Ms_10.out.below bb
          have Q_11 := bup Q_10 (Nat.le_of_eq HH.out.symm) bb
          clear cs0 cs1 cs2 ls ch0 ch1 ch2 ch3 lh
          clear a_10 b_10 c_10 g_10 h_10 i_10 s_10 R0_10 R1_10 R2_10 N01_10 N12_10 N02_10 Ms_10 Q_10 bb
          have Mt_11 := Mt
          clear Mt
          go_upto_region 10 with fail
          generalize hW : w11.alloc (.cells #[.int .i64 t2, .int .i64 m2, .slice ot n2 kt] 24) = W12
          obtain ⟨t_12, bb, -⟩ := boxed hW
          obtain ⟨bt, hb⟩ : ∃ x, w11.heap.size = x := ⟨_, rfl⟩
          rw [hb] at t_12 ⊢
          clear hW
          have a_12 := a_11.below bb a_11.lt
          have b_12 := b_11.below bb b_11.lt
          have c_12 := c_11.below bb c_11.lt
          have g_12 := g_11.below bb g_11.lt
          have h_12 := h_11.below bb h_11.lt
          have i_12 := i_11.below bb i_11.lt
          have s_12 := s_11.below bb s_11.lt
          have R0_12 : Hid (RdE W12 (.slice o0 n0 k0) n0 A0) := R0_11.out.below bb
          have R1_12 : Hid (RdE W12 (.slice o1 n1 k1) n1 A1) := R1_11.out.below bb
          have R2_12 : Hid (RdE W12 (.slice o2 n2 k2) n2 A2) := R2_11.out.below bb
          have N01_12 : Hid (RdR W12 (.slice p01 l01 y01) L01.length (atR L01)) := N01_11.out.below bb
          have N12_12 : Hid (RdR W12 (.slice p12 l12 y12) L12.length (atR L12)) := N12_11.out.below bb
          have N02_12 : Hid (RdR W12 (.slice p02 l02 y02) L02.length (atR L02)) := N02_11.out.below bb
          have Ms_12 : Hid (RdE W12 (.slice os n1 ks) n1 A1) := Ms_11.out.below bb
          have Mt_12 : Hid (RdE W12 (.slice ot n2 kt) n2 A2) := Mt_11.out.below bb
          have Q_12 := bup Q_11 (Nat.le_of_eq HH.out.symm) bb
          clear a_11 b_11 c_11 g_11 h_11 i_11 s_11 R0_11 R1_11 R2_11 N01_11 N12_11 N02_11 Ms_11 Mt_11 Q_11 bb hb
          have ca0 := a_12.cell 0 _ rfl
          have ca1 := a_12.cell 1 _ rfl
          have ca2 := a_12.cell 2 _ rfl
          have la := a_12.lt
          have ci0 := i_12.cell 0 _ rfl
          have ci1 := i_12.cell 1 _ rfl
          have ci2 := i_12.cell 2 _ rfl
          have ci3 := i_12.cell 3 _ rfl
          have li := i_12.lt
          go_wp2_with fail
          refine (X02.out _ _ _ R0_12.out N02_12.out).mono ?_; rintro e w13 ⟨xu, rfl, own, bb⟩
          have Mu : Hid (RdE w13 xu n2 A2) := rdE_pre own
          obtain ⟨ou, ku, ev⟩ := own.form
          rw [preE_len] at ev
          clear own
          subst ev
          have a_13 := a_12.below bb a_12.lt
          have b_13 := b_12.below bb b_12.lt
          have c_13 := c_12.below bb c_12.lt
          have g_13 := g_12.below bb g_12.lt
          have h_13 := h_12.below bb h_12.lt
          have i_13 := i_12.below bb i_12.lt
          have s_13 := s_12.below bb s_12.lt
          have t_13 := t_12.below bb t_12.lt
          have R0_13 : Hid (RdE w13 (.slice o0 n0 k0) n0 A0) := R0_12.out.below bb
          have R1_13 : Hid (RdE w13 (.slice o1 n1 k1) n1 A1) := R1_12.out.below bb
          have R2_13 : Hid (RdE w13 (.slice o2 n2 k2) n2 A2) := R2_12.out.below bb
          have N01_13 : Hid (RdR w13 (.slice p01 l01 y01) L01.length (atR L01)) := N01_12.out.below bb
          have N12_13 : Hid (RdR w13 (.slice p12 l12 y12) L12.length (atR L12)) := N12_12.out.below bb
          have N02_13 : Hid (RdR w13 (.slice p02 l02 y02) L02.length (atR L02)) := N02_12.out.below bb
          have Ms_13 : Hid (RdE w13 (.slice os n1 ks) n1 A1) := Ms_12.out.below bb
          have Mt_13 : Hid (RdE w13 (.slice ot n2 kt) n2 A2) := Mt_12.out.below bb
          have Q_13 := bup Q_12 (Nat.le_of_eq HH.out.symm) bb
          clear ca0 ca1 ca2 la ci0 ci1 ci2 ci3 li
          clear a_12 b_12 c_12 g_12 h_12 i_12 s_12 t_12 R0_12 R1_12 R2_12 N01_12 N12_12 N02_12 Ms_12 Mt_12 Q_12 bb
          have Mu_13 := Mu
          clear Mu
          go_upto_region 11 with fail
          generalize hW : w13.alloc (.cells #[.int .i64 t2, .int .i64 m2, .slice ou n2 ku] 24) = W14
          obtain ⟨u_14, bb, -⟩ := boxed hW
          obtain ⟨bu, hb⟩ : ∃ x, w13.heap.size = x := ⟨_, rfl⟩
          rw [hb] at u_14 ⊢
          clear hW
          have a_14 := a_13.below bb a_13.lt
          have b_14 := b_13.below bb b_13.lt
          have c_14 := c_13.below bb c_13.lt
          have g_14 := g_13.below bb g_13.lt
          have h_14 := h_13.below bb h_13.lt
          have i_14 := i_13.below bb i_13.lt
          have s_14 := s_13.below bb s_13.lt
          have t_14 := t_13.below bb t_13.lt
          have R0_14 : Hid (RdE W14 (.slice o0 n0 k0) n0 A0) := R0_13.out.below bb
          have R1_14 : Hid (RdE W14 (.slice o1 n1 k1) n1 A1) := R1_13.out.below bb
          have R2_14 : Hid (RdE W14 (.slice o2 n2 k2) n2 A2) := R2_13.out.below bb
          have N01_14 : Hid (RdR W14 (.slice p01 l01 y01) L01.length (atR L01)) := N01_13.out.below bb
          have N12_14 : Hid (RdR W14 (.slice p12 l12 y12) L12.length (atR L12)) := N12_13.out.below bb
          have N02_14 : Hid (RdR W14 (.slice p02 l02 y02) L02.length (atR L02)) := N02_13.out.below bb
          have Ms_14 : Hid (RdE W14 (.slice os n1 ks) n1 A1) := Ms_13.out.below bb
          have Mt_14 : Hid (RdE W14 (.slice ot n2 kt) n2 A2) := Mt_13.out.below bb
          have Mu_14 : Hid (RdE W14 (.slice ou n2 ku) n2 A2) := Mu_13.out.below bb
          have Q_14 := bup Q_13 (Nat.le_of_eq HH.out.symm) bb
          clear a_13 b_13 c_13 g_13 h_13 i_13 s_13 t_13 R0_13 R1_13 R2_13 N01_13 N12_13 N02_13 Ms_13 Mt_13 Mu_13 Q_13 bb hb
          go_wp2_with fail
          refine (dl_alive _).mono ?_; rintro e w15 ⟨rfl, bb⟩
          have a_15 := a_14.below bb a_14.lt
          have b_15 := b_14.below bb b_14.lt
          have c_15 := c_14.below bb c_14.lt
          have g_15 := g_14.below bb g_14.lt
          have h_15 := h_14.below bb h_14.lt
          have i_15 := i_14.below bb i_14.lt
          have s_15 := s_14.below bb s_14.lt
          have t_15 := t_14.below bb t_14.lt
          have u_15 := u_14.below bb u_14.lt
          have R0_15 : Hid (RdE w15 (.slice o0 n0 k0) n0 A0) := R0_14.out.below bb
          have R1_15 : Hid (RdE w15 (.slice o1 n1 k1) n1 A1) := R1_14.out.below bb
          have R2_15 : Hid (RdE w15 (.slice o2 n2 k2) n2 A2) := R2_14.out.below bb
          have N01_15 : Hid (RdR w15 (.slice p01 l01 y01) L01.length (atR L01)) := N01_14.out.below bb
          have N12_15 : Hid (RdR w15 (.slice p12 l12 y12) L12.length (atR L12)) := N12_14.out.below bb
          have N02_15 : Hid (RdR w15 (.slice p02 l02 y02) L02.length (atR L02)) := N02_14.out.below bb
          have Ms_15 : Hid (RdE w15 (.slice os n1 ks) n1 A1) := Ms_14.out.below bb
          have Mt_15 : Hid (RdE w15 (.slice ot n2 kt) n2 A2) := Mt_14.out.below bb
          have Mu_15 : Hid (RdE w15 (.slice ou n2 ku) n2 A2) := Mu_14.out.below bb
          have Q_15 := bup Q_14 (Nat.le_of_eq HH.out.symm) bb
          clear a_14 b_14 c_14 g_14 h_14 i_14 s_14 t_14 u_14 R0_14 R1_14 R2_14 N01_14 N12_14 N02_14 Ms_14 Mt_14 Mu_14 Q_14 bb
          have ct0 := t_15.cell 0 _ rfl
          have ct1 := t_15.cell 1 _ rfl
          have ct2 := t_15.cell 2 _ rfl
          have lt := t_15.lt
          have cu0 := u_15.cell 0 _ rfl
          have cu1 := u_15.cell 1 _ rfl
          have cu2 := u_15.cell 2 _ rfl
          have lu := u_15.lt
          go_wp2_with fail
          refine (sn_same _ t2 m2 _ _ n2 A2 Mt_15.out Mu_15.out).mono ?_; rintro e w16 ⟨rfl, bb⟩
          have a_16 := a_15.below bb a_15.lt
          have b_16 := b_15.below bb b_15.lt
          have c_16 := c_15.below bb c_15.lt
          have g_16 := g_15.below bb g_15.lt
          have h_16 := h_15.below bb h_15.lt
          have i_16 := i_15.below bb i_15.lt
          have s_16 := s_15.below bb s_15.lt
          have t_16 := t_15.below bb t_15.lt
          have u_16 := u_15.below bb u_15.lt
          have R0_16 : Hid (RdE w16 (.slice o0 n0 k0) n0 A0) := R0_15.out.below bb
          have R1_16 : Hid (RdE w16 (.slice o1 n1 k1) n1 A1) := R1_15.out.below bb
          have R2_16 : Hid (RdE w16 (.slice o2 n2 k2) n2 A2) := R2_15.out.below bb
          have N01_16 : Hid (RdR w16 (.slice p01 l01 y01) L01.length (atR L01)) := N01_15.out.below bb
          have N12_16 : Hid (RdR w16 (.slice p12 l12 y12) L12.length (atR L12)) := N12_15.out.below bb
          have N02_16 : Hid (RdR w16 (.slice p02 l02 y02) L02.length (atR L02)) := N02_15.out.below bb
          have Ms_16 : Hid (RdE w16 (.slice os n1 ks) n1 A1) := Ms_15.out.below bb
          have Mt_16 : Hid (RdE w16 (.slice ot n2 kt) n2 A2) := Mt_15.out.below bb
          have Mu_16 : Hid (RdE w16 (.slice ou n2 ku) n2 A2) := Mu_15.out.below bb
          have Q_16 := bup Q_15 (Nat.le_of_eq HH.out.symm) bb
          clear ct0 ct1 ct2 lt cu0 cu1 cu2 lu
          clear a_15 b_15 c_15 g_15 h_15 i_15 s_15 t_15 u_15 R0_15 R1_15 R2_15 N01_15 N12_15 N02_15 Ms_15 Mt_15 Mu_15 Q_15 bb
          go_wp2_with fail
          go_ret
          exact ⟨rfl, by rw [HH.out]; exact Q_16⟩
        · have hq : (f02 == 0) = false := by simp [hz02]
          go_wp2_with fail
          refine (dl_alive _).mono ?_; rintro e w9 ⟨rfl, b9⟩
          go_wp2_with fail
          go_ret
          exact ⟨rfl, by rw [HH.out]; exact bup Q_8 (Nat.le_of_eq HH.out.symm) b9⟩
      · have hq : (f12 == 0) = false := by simp [hz12]
        go_wp2_with fail
        refine (dl_alive _).mono ?_; rintro e w9 ⟨rfl, b9⟩
        go_wp2_with fail
        go_ret
        exact ⟨rfl, by rw [HH.out]; exact bup Q_8 (Nat.le_of_eq HH.out.symm) b9⟩
    · have hq : (f01 == 0) = false := by simp [hz01]
      go_wp2_with fail
      refine (dl_alive _).mono ?_; rintro e w9 ⟨rfl, b9⟩
      go_wp2_with fail
      go_ret
      exact ⟨rfl, by rw [HH.out]; exact bup Q_8 (Nat.le_of_eq HH.out.symm) b9⟩
  · -- one is
    go_wp2_with fail
    refine (dl_alive _).mono ?_; rintro e w9 ⟨rfl, b9⟩
    go_wp2_with fail
    go_ret
    exact ⟨rfl, by rw [HH.out]; exact bup Q_2 (Nat.le_of_eq HH.out.symm) b9⟩

set_option maxRecDepth 100000 in
theorem lifted (os : Os) (started : os.Started) (H : Type) (enc : TypeId × Value → H) :
    ReturnsInHanded {} Tryz.checked os 7 .any (Rows.deltaTwoSpec.pre6 enc Tryz.prog Tryz.f7 Rows.deltaTwoRow.domain false) (Rows.deltaTwoSpec.post enc Tryz.prog Tryz.f7 false true false false) := by
  refine returnsInHanded_of_change (C := Tryz.checked) own started (by kernel_rfl) Tryz.func7
    (ChangeSpec.witness6 (enc := enc) (C := Tryz.checked) false ⟨#[], #[.agg #[.int .i64 0, .int .i64 0, .slice none 0 0], .agg #[.int .i64 0, .int .i64 0, .slice none 0 0], .agg #[.int .i64 0, .int .i64 0, .slice none 0 0]], []⟩ 8 (by kernel_rfl) (by kernel_rfl) (by kernel_rfl) (by kernel_rfl)) ?_
  intro W base args ds gs before hval0 hW hcnd _
  have hval : ∀ (j : Nat) t v, Tryz.f7.params[j]? = some t → args[j]? = some v → Value.okWide Tryz.prog W .any base t v := hval0
  have hW' := hW
  obtain ⟨p, q, hA0, hV, rfl, hfz, hnd⟩ := hW
  have hA : DataW.TrodAll enc Tryz.prog W 0 (fun _ => true) true Tryz.f7.params.toList args.toList ds p := hA0
  rw [Tryz.params7] at hA hval
  obtain ⟨v0, vs0, d0, ds0, p0, q0, hargs, rfl, rfl, h0, r0⟩ := trodAll_cons hA
  obtain ⟨v1, vs1, d1, ds1, p1, q1, rfl, rfl, rfl, h1, r1⟩ := trodAll_cons r0
  obtain ⟨v2, vs2, d2, ds2, p2, q2, rfl, rfl, rfl, h2, r2⟩ := trodAll_cons r1
  obtain ⟨rfl, rfl, rfl⟩ := trodAll_nil r2
  obtain rfl : args = #[v0, v1, v2] := by cases args; simp_all
  obtain ⟨rfl, rfl⟩ := trodVars_none hV
  have hlt := hW'.lt
  have k0 := h0
  obtain ⟨t0, m0, u0, n0, A0, e0, st0, sm0, b0, rd0⟩ := open_snap (hval 0 24 v0 rfl rfl) h0
  subst e0
  have k1 := h1
  obtain ⟨t1, m1, u1, n1, A1, e1, st1, sm1, b1, rd1⟩ := open_snap (hval 1 24 v1 rfl rfl) h1
  subst e1
  have k2 := h2
  obtain ⟨t2, m2, u2, n2, A2, e2, st2, sm2, b2, rd2⟩ := open_snap (hval 2 24 v2 rfl rfl) h2
  subst e2
  clear hA0 hval0
  refine (walk W t0 m0 u0 n0 A0 st0 sm0 b0 rd0 t1 m1 u1 n1 A1 st1 sm1 b1 rd1 t2 m2 u2 n2 A2 st2 sm2 b2 rd2).mono fun e W' ⟨he, hg⟩ => ?_
  subst he
  exact ⟨_, rfl, post_of_below hW' (fun _ _ _ => (trodAll_cons_mk (shut_bool Tryz.underlying4 _) trodAll_mk0)) (trodAll_cons_mk (Below.trod laidOut (by kernel_rfl) (of_decide_eq_true (by kernel_rfl)) k0 hg (fun x hx => by first | exact absurd hx (by simp) | exact hlt x (by simp [hx]))) (trodAll_cons_mk (Below.trod laidOut (by kernel_rfl) (of_decide_eq_true (by kernel_rfl)) k1 hg (fun x hx => by first | exact absurd hx (by simp) | exact hlt x (by simp [hx]))) (trodAll_cons_mk (Below.trod laidOut (by kernel_rfl) (of_decide_eq_true (by kernel_rfl)) k2 hg (fun x hx => by first | exact absurd hx (by simp) | exact hlt x (by simp [hx]))) trodAll_mk0))) rfl hg⟩

theorem over : Rows.deltaTwoRow.holds Tryz.pinned (OpenSpec.ofChange Rows.deltaTwoSpec) :=
  OpenClaim.holds_of_wide 7 Tryz.f7 rfl rfl rfl rfl rfl rfl rfl ⟨rfl, rfl, rfl, rfl, rfl⟩ rfl rfl rfl rfl rfl (by kernel_rfl) Tryz.func7 (by kernel_rfl)
    (of_decide_eq_true (by kernel_rfl)) (by unfold Func.isWrapper; first | (rw [if_pos (by decide +kernel)]; kernel_rfl) | (rw [if_neg (by decide +kernel)]; exact ⟨rfl, rfl⟩))
    (fun os started H enc _ => lifted os started H enc)
end DeltaTwoL

theorem deltaTwo_proved : Rows.DeltaTwoSaid := DeltaTwoL.over
#print axioms deltaTwo_proved
end Go.Proofs.YtfoblmambbfphaaGreat
