/-
  Proved: a snapshot that is told by another one, by way of bytes, too, is made of that again; so is one that is told by none (the law DeltaBack answers true at every input).
  Conditions: none.
-/
import Derived.Test.YtfoblmambbfphaaGreatRows
import Derived.Test.YtfoblmambbfphaaGreatP27
namespace Go.Proofs.YtfoblmambbfphaaGreat
open Go.ChangeShapes Go.WideShapes Go.ChangeAt Go.RowKit
set_option linter.unusedVariables false

namespace DeltaBackL
theorem own : ownKnob Tryz.prog.godebug = none := by kernel_rfl

set_option maxRecDepth 20000 in
set_option maxHeartbeats 8000000 in
theorem walk (w : World) (t0 m0 : Int) (u0 : Value) (n0 : Nat) (A0 : Nat → En) (s0 : S64 t0) (s0' : S64 m0) (e0 : ∀ i, i < n0 → (A0 i).ok) (r0 : RdE w u0 n0 A0)
    (t1 m1 : Int) (u1 : Value) (n1 : Nat) (A1 : Nat → En) (s1 : S64 t1) (s1' : S64 m1) (e1 : ∀ i, i < n1 → (A1 i).ok) (r1 : RdE w u1 n1 A1) :
    Calls Tryz.prog 5 #[snV t0 m0 u0, snV t1 m1 u1] w fun e w' => e = .returned (.bool true) ∧ Below w.heap.size w w' := by
  have E0 : Hid (∀ i, i < n0 → (A0 i).ok) := e0
  have R0 : Hid (RdE w u0 n0 A0) := r0
  obtain ⟨o0, k0, q0, hc0, hm0, _⟩ := r0
  subst q0
  have E1 : Hid (∀ i, i < n1 → (A1 i).ok) := e1
  have R1 : Hid (RdE w u1 n1 A1) := r1
  obtain ⟨o1, k1, q1, hc1, hm1, _⟩ := r1
  subst q1
  have D01 : Hid (∀ w', RdE w' (.slice o0 n0 k0) n0 A0 → RdE w' (.slice o1 n1 k1) n1 A1 → Calls Tryz.prog 11 #[snV t0 m0 (.slice o0 n0 k0), snV t1 m1 (.slice o1 n1 k1)] w' fun e w'' => ∃ u, e = .returned (.tuple #[gmV (dlG t0 m0 (preE A0 n0) t1 m1 (preE A1 n1)) u, .int .i64 (dlE t0 m0 (preE A0 n0) t1 m1 (preE A1 n1))]) ∧ OwnR w'' w'.heap.size u (dlL t0 m0 (preE A0 n0) t1 m1 (preE A1 n1)) ∧ Below w'.heap.size w' w'') := fun w' h h' => dl_diff w' t0 m0 _ n0 A0 E0.out h t1 m1 _ n1 A1 h'
  have G01 : Hid (dlE t0 m0 (preE A0 n0) t1 m1 (preE A1 n1) = 0 → dlG t0 m0 (preE A0 n0) t1 m1 (preE A1 n1) = ⟨t1, m1, t0⟩) := dl_head
  have Z01 : Hid (dlE t0 m0 (preE A0 n0) t1 m1 (preE A1 n1) = 0 → ∀ w' v gv, RdE w' v n0 A0 → RdR w' gv (dlL t0 m0 (preE A0 n0) t1 m1 (preE A1 n1)).length (atR (dlL t0 m0 (preE A0 n0) t1 m1 (preE A1 n1))) → Calls Tryz.prog 20 #[snV t0 m0 v, gmV ⟨t1, m1, t0⟩ gv] w' fun e w'' => ∃ u, e = .returned (.tuple #[snV t1 m1 u, .int .i64 0]) ∧ OwnE w'' w'.heap.size u (preE A1 n1) ∧ Below w'.heap.size w' w'') := fun h w' v gv h1 h2 => dl_again w' t0 m0 v n0 A0 E0.out h1 t1 m1 n1 A1 E1.out _ h rfl gv h2
  have K01 : Hid (dlE t0 m0 (preE A0 n0) t1 m1 (preE A1 n1) = 0 → ∀ w' v, RdE w' v n1 A1 → Calls Tryz.prog 18 #[snV t1 m1 v] w' fun e w'' => e = .returned (.int .i64 0) ∧ Below w'.heap.size w' w'') := fun h w' v h1 => by
    have c := sn_check w' t1 m1 v n1 A1 h1
    rw [(dl_told h (pre_ent E0.out) (pre_ent E1.out)).2.1] at c
    exact c
  have OK : dlE t0 m0 (preE A0 n0) t1 m1 (preE A1 n1) = 0 → ∀ i, i < (dlL t0 m0 (preE A0 n0) t1 m1 (preE A1 n1)).length → (atR (dlL t0 m0 (preE A0 n0) t1 m1 (preE A1 n1)) i).ok := fun h => atR_ok (dl_told h (pre_ent E0.out) (pre_ent E1.out)).2.2.2.2.2.ok
  have W01 : Hid (dlE t0 m0 (preE A0 n0) t1 m1 (preE A1 n1) = 0 → ∀ w' gv, RdR w' gv (dlL t0 m0 (preE A0 n0) t1 m1 (preE A1 n1)).length (atR (dlL t0 m0 (preE A0 n0) t1 m1 (preE A1 n1))) → Calls Tryz.prog 23 #[gmV ⟨t1, m1, t0⟩ gv] w' fun e w'' => ∃ u, e = .returned (.tuple #[u, .int .i64 (wrtE ⟨t1, m1, t0⟩ (atR (dlL t0 m0 (preE A0 n0) t1 m1 (preE A1 n1))) (dlL t0 m0 (preE A0 n0) t1 m1 (preE A1 n1)).length)]) ∧ Own w'' w'.heap.size u (wrtB ⟨t1, m1, t0⟩ (atR (dlL t0 m0 (preE A0 n0) t1 m1 (preE A1 n1))) (dlL t0 m0 (preE A0 n0) t1 m1 (preE A1 n1)).length) ∧ Below w'.heap.size w' w'') := fun h w' gv h1 => gm_write w' ⟨t1, m1, t0⟩ ⟨s1, s1', s0⟩ gv _ _ (OK h) h1
  have B01 : Hid (dlE t0 m0 (preE A0 n0) t1 m1 (preE A1 n1) = 0 → wrtE ⟨t1, m1, t0⟩ (atR (dlL t0 m0 (preE A0 n0) t1 m1 (preE A1 n1))) (dlL t0 m0 (preE A0 n0) t1 m1 (preE A1 n1)).length = 0 → ∀ w' x, Rd w' x (wrtB ⟨t1, m1, t0⟩ (atR (dlL t0 m0 (preE A0 n0) t1 m1 (preE A1 n1))) (dlL t0 m0 (preE A0 n0) t1 m1 (preE A1 n1)).length) → Calls Tryz.prog 24 #[x] w' fun e w'' => ∃ u, e = .returned (.tuple #[gmV ⟨t1, m1, t0⟩ u, .int .i64 0]) ∧ OwnR w'' w'.heap.size u (dlL t0 m0 (preE A0 n0) t1 m1 (preE A1 n1)) ∧ Below w'.heap.size w' w'') := fun h h2 w' x hx => by
    obtain ⟨h3, h4, h5, h6, h7, h8⟩ := back_gram (OK h) h2
    have h9 := rgE_zero h3
    have hb : Bytes (wrtB ⟨t1, m1, t0⟩ (atR (dlL t0 m0 (preE A0 n0) t1 m1 (preE A1 n1))) (dlL t0 m0 (preE A0 n0) t1 m1 (preE A1 n1)).length) := by rw [h7]; exact sealed_ok (gmB_ok (OK h) (wrt_ok h2).1).1
    have c := gm_read w' x _ hb hx (by have := h9.1; omega)
    rw [h3, h4, h5, pre_atR] at c
    exact c
  have FU : Hid (∀ w', RdE w' (.slice o1 n1 k1) n1 A1 → Calls Tryz.prog 13 #[snV t1 m1 (.slice o1 n1 k1)] w' fun e w'' => ∃ u, e = .returned (.tuple #[gmV (fulG t1 m1 (preE A1 n1)) u, .int .i64 (fulE t1 m1 (preE A1 n1))]) ∧ OwnR w'' w'.heap.size u (fulL t1 m1 (preE A1 n1)) ∧ Below w'.heap.size w' w'') := fun w' h => dl_full w' t1 m1 _ n1 A1 h
  have FG : Hid (fulE t1 m1 (preE A1 n1) = 0 → fulG t1 m1 (preE A1 n1) = ⟨t1, m1, -1⟩) := fun h => by unfold fulG; rw [if_pos h]
  have FN : Hid (fulE t1 m1 (preE A1 n1) ≠ 0 → fulL t1 m1 (preE A1 n1) = []) := fun h => by unfold fulL; rw [if_neg h]
  have FZ : Hid (fulE t1 m1 (preE A1 n1) = 0 → ∀ w' v gv, RdE w' v n0 A0 → RdR w' gv (fulL t1 m1 (preE A1 n1)).length (atR (fulL t1 m1 (preE A1 n1))) → Calls Tryz.prog 20 #[snV t0 m0 v, gmV ⟨t1, m1, -1⟩ gv] w' fun e w'' => ∃ u, e = .returned (.tuple #[snV t1 m1 u, .int .i64 0]) ∧ OwnE w'' w'.heap.size u (preE A1 n1) ∧ Below w'.heap.size w' w'') := fun h w' v gv h1 h2 => dl_again0 w' t0 m0 v n0 A0 h1 t1 m1 n1 A1 E1.out _ h rfl gv h2
  clear OK
  obtain ⟨g01, hg⟩ : ∃ x, dlG t0 m0 (preE A0 n0) t1 m1 (preE A1 n1) = x := ⟨_, rfl⟩
  obtain ⟨f01, hf⟩ : ∃ x, dlE t0 m0 (preE A0 n0) t1 m1 (preE A1 n1) = x := ⟨_, rfl⟩
  obtain ⟨L01, hl⟩ : ∃ x, dlL t0 m0 (preE A0 n0) t1 m1 (preE A1 n1) = x := ⟨_, rfl⟩
  rw [hg, hf, hl] at D01
  rw [hg, hf] at G01
  rw [hf, hl] at Z01 W01 B01
  rw [hf] at K01
  clear hg hf hl
  obtain ⟨EW, hf⟩ : ∃ x, wrtE ⟨t1, m1, t0⟩ (atR L01) L01.length = x := ⟨_, rfl⟩
  obtain ⟨XW, hl⟩ : ∃ x, wrtB ⟨t1, m1, t0⟩ (atR L01) L01.length = x := ⟨_, rfl⟩
  rw [hf, hl] at W01 B01
  clear hf hl
  obtain ⟨gF, hg⟩ : ∃ x, fulG t1 m1 (preE A1 n1) = x := ⟨_, rfl⟩
  obtain ⟨fF, hf⟩ : ∃ x, fulE t1 m1 (preE A1 n1) = x := ⟨_, rfl⟩
  obtain ⟨LF, hl⟩ : ∃ x, fulL t1 m1 (preE A1 n1) = x := ⟨_, rfl⟩
  rw [hg, hf, hl] at FU
  rw [hg, hf] at FG
  rw [hf, hl] at FZ FN
  clear hg hf hl
  obtain ⟨g01a, g01b, g01c⟩ := g01
  obtain ⟨gFa, gFb, gFc⟩ := gF
  clear e0 e1 s0 s0' s1 s1'
  go_enter Tryz.func5, Tryz.ntmps5
  go_upto_region 1 with fail
  generalize hW : (w.alloc (.cells #[.int .i64 t0, .int .i64 m0, .slice o0 n0 k0] 24)).alloc (.cells #[.int .i64 t1, .int .i64 m1, .slice o1 n1 k1] 24) = W0
  obtain ⟨a_0, b_0, bb⟩ := boxed2 hW
  obtain ⟨H, hH⟩ : ∃ H, w.heap.size = H := ⟨_, rfl⟩
  have HH : Hid (w.heap.size = H) := hH
  have R0_0 : Hid (RdE W0 (.slice o0 n0 k0) n0 A0) := R0.out.below bb
  have R1_0 : Hid (RdE W0 (.slice o1 n1 k1) n1 A1) := R1.out.below bb
  rw [hH] at a_0 b_0 bb
  rw [hH]
  have Q_0 := bb
  clear hW hH bb R0 R1
  have ca0 := a_0.cell 0 _ rfl
  have ca1 := a_0.cell 1 _ rfl
  have ca2 := a_0.cell 2 _ rfl
  have la := a_0.lt
  have cb0 := b_0.cell 0 _ rfl
  have cb1 := b_0.cell 1 _ rfl
  have cb2 := b_0.cell 2 _ rfl
  have lb := b_0.lt
  go_wp2_with fail
  generalize hW : W0.alloc (.cells #[.int .i64 t0, .int .i64 m0, .slice o0 n0 k0, .int .i64 t1, .int .i64 m1, .slice o1 n1 k1] 24) = W1
  obtain ⟨s_1, bb, -⟩ := boxed hW
  obtain ⟨bs, hb⟩ : ∃ x, W0.heap.size = x := ⟨_, rfl⟩
  rw [hb] at s_1 ⊢
  clear hW
  have a_1 := a_0.below bb a_0.lt
  have b_1 := b_0.below bb b_0.lt
  have R0_1 : Hid (RdE W1 (.slice o0 n0 k0) n0 A0) := R0_0.out.below bb
  have R1_1 : Hid (RdE W1 (.slice o1 n1 k1) n1 A1) := R1_0.out.below bb
  have Q_1 := bup Q_0 (Nat.le_of_eq HH.out.symm) bb
  clear ca0 ca1 ca2 la cb0 cb1 cb2 lb
  clear a_0 b_0 R0_0 R1_0 Q_0 bb hb
  obtain ⟨q, hq⟩ : ∃ q : Bool, q = true ↔ ∃ k, k < 2 ∧ 100 < (fun k : Nat => match k with | 0 => n0 | _ => n1) k := by
    by_cases h : ∃ k, k < 2 ∧ 100 < (fun k : Nat => match k with | 0 => n0 | _ => n1) k
    · exact ⟨true, fun _ => h, fun _ => rfl⟩
    · exact ⟨false, fun h' => (by cases h'), fun h' => absurd h' h⟩
  have HGR : Hid (Calls Tryz.prog 9 #[.slice (some ⟨bs, 0, none⟩) 2 2] W1 fun e w' => e = .returned (.bool q) ∧ Below W1.heap.size W1 w') := dl_great W1 bs 2 2 (by omega) (by omega) (fun k : Nat => match k with | 0 => t0 | _ => t1) (fun k : Nat => match k with | 0 => m0 | _ => m1) (fun k : Nat => match k with | 0 => o0 | _ => o1) (fun k : Nat => match k with | 0 => n0 | _ => n1) (fun k : Nat => match k with | 0 => k0 | _ => k1) q hq (fun k hk => by
    match k, hk with
    | 0, _ => exact ⟨s_1.cell 0 _ rfl, s_1.cell 1 _ rfl, s_1.cell 2 _ rfl⟩
    | 1, _ => exact ⟨s_1.cell 3 _ rfl, s_1.cell 4 _ rfl, s_1.cell 5 _ rfl⟩)
  clear hq
  refine (HGR.out).mono ?_; rintro e w2 ⟨rfl, bb⟩
  clear s_1
  have a_2 := a_1.below bb a_1.lt
  have b_2 := b_1.below bb b_1.lt
  have R0_2 : Hid (RdE w2 (.slice o0 n0 k0) n0 A0) := R0_1.out.below bb
  have R1_2 : Hid (RdE w2 (.slice o1 n1 k1) n1 A1) := R1_1.out.below bb
  have Q_2 := bup Q_1 (Nat.le_of_eq HH.out.symm) bb
  clear a_1 b_1 R0_1 R1_1 Q_1 bb
  clear HGR
  cases q
  · -- none is more than is looked at
    have ca0 := a_2.cell 0 _ rfl
    have ca1 := a_2.cell 1 _ rfl
    have ca2 := a_2.cell 2 _ rfl
    have la := a_2.lt
    have cb0 := b_2.cell 0 _ rfl
    have cb1 := b_2.cell 1 _ rfl
    have cb2 := b_2.cell 2 _ rfl
    have lb := b_2.lt
    go_wp2_with fail
    refine (D01.out _ R0_2.out R1_2.out).mono ?_; rintro e w3 ⟨v01, rfl, own, bb⟩
    have N01 : Hid (RdR w3 v01 L01.length (atR L01)) := own.atR
    obtain ⟨p01, y01, ev⟩ := own.form
    obtain ⟨l01, hl⟩ : ∃ x, L01.length = x := ⟨_, rfl⟩
    have HL01 : Hid (L01.length = l01) := hl
    rw [hl] at ev
    clear own hl
    subst ev
    have a_3 := a_2.below bb a_2.lt
    have b_3 := b_2.below bb b_2.lt
    have R0_3 : Hid (RdE w3 (.slice o0 n0 k0) n0 A0) := R0_2.out.below bb
    have R1_3 : Hid (RdE w3 (.slice o1 n1 k1) n1 A1) := R1_2.out.below bb
    have Q_3 := bup Q_2 (Nat.le_of_eq HH.out.symm) bb
    clear ca0 ca1 ca2 la cb0 cb1 cb2 lb
    clear a_2 b_2 R0_2 R1_2 Q_2 bb
    have N01_3 := N01
    clear N01 D01
    go_upto_region 4 with fail
    generalize hW : w3.alloc (.cells #[.int .i64 g01a, .int .i64 g01b, .int .i64 g01c, .slice p01 l01 y01] 29) = W4
    obtain ⟨g_4, bb, -⟩ := boxed hW
    obtain ⟨bg, hb⟩ : ∃ x, w3.heap.size = x := ⟨_, rfl⟩
    rw [hb] at g_4 ⊢
    clear hW
    have a_4 := a_3.below bb a_3.lt
    have b_4 := b_3.below bb b_3.lt
    have R0_4 : Hid (RdE W4 (.slice o0 n0 k0) n0 A0) := R0_3.out.below bb
    have R1_4 : Hid (RdE W4 (.slice o1 n1 k1) n1 A1) := R1_3.out.below bb
    have N01_4 : Hid (RdR W4 (.slice p01 l01 y01) L01.length (atR L01)) := N01_3.out.below bb
    have Q_4 := bup Q_3 (Nat.le_of_eq HH.out.symm) bb
    clear a_3 b_3 R0_3 R1_3 N01_3 Q_3 bb hb
    by_cases hz01 : f01 = 0
    · have hg01 := G01.out hz01
      injection hg01 with ha01 hb01 hc01
      have Y01 := Z01.out hz01
      have Y02 := K01.out hz01
      have Y03 := W01.out hz01
      have Y04 := B01.out hz01
      clear Z01 G01 K01 W01 B01
      replace ha01 := ha01.symm; replace hb01 := hb01.symm; replace hc01 := hc01.symm
      subst ha01 hb01 hc01 hz01
      have X01 : Hid (_) := Y01
      clear Y01
      have X02 : Hid (_) := Y02
      clear Y02
      have X03 : Hid (_) := Y03
      clear Y03
      have X04 : Hid (_) := Y04
      clear Y04
      have ca0 := a_4.cell 0 _ rfl
      have ca1 := a_4.cell 1 _ rfl
      have ca2 := a_4.cell 2 _ rfl
      have la := a_4.lt
      have cg0 := g_4.cell 0 _ rfl
      have cg1 := g_4.cell 1 _ rfl
      have cg2 := g_4.cell 2 _ rfl
      have cg3 := g_4.cell 3 _ rfl
      have lg := g_4.lt
      go_wp2_with fail
      refine (X01.out _ _ _ R0_4.out N01_4.out).mono ?_; rintro e w5 ⟨xs, rfl, own, bb⟩
      have Ms : Hid (RdE w5 xs n1 A1) := rdE_pre own
      obtain ⟨os, ks, ev⟩ := own.form
      rw [preE_len] at ev
      clear own
      subst ev
      have a_5 := a_4.below bb a_4.lt
      have b_5 := b_4.below bb b_4.lt
      have g_5 := g_4.below bb g_4.lt
      have R0_5 : Hid (RdE w5 (.slice o0 n0 k0) n0 A0) := R0_4.out.below bb
      have R1_5 : Hid (RdE w5 (.slice o1 n1 k1) n1 A1) := R1_4.out.below bb
      have N01_5 : Hid (RdR w5 (.slice p01 l01 y01) L01.length (atR L01)) := N01_4.out.below bb
      have Q_5 := bup Q_4 (Nat.le_of_eq HH.out.symm) bb
      clear ca0 ca1 ca2 la cg0 cg1 cg2 cg3 lg
      clear a_4 b_4 g_4 R0_4 R1_4 N01_4 Q_4 bb
      have Ms_5 := Ms
      clear Ms X01
      go_upto_region 6 with fail
      generalize hW : w5.alloc (.cells #[.int .i64 t1, .int .i64 m1, .slice os n1 ks] 24) = W6
      obtain ⟨s_6, bb, -⟩ := boxed hW
      obtain ⟨bs, hb⟩ : ∃ x, w5.heap.size = x := ⟨_, rfl⟩
      rw [hb] at s_6 ⊢
      clear hW
      have a_6 := a_5.below bb a_5.lt
      have b_6 := b_5.below bb b_5.lt
      have g_6 := g_5.below bb g_5.lt
      have R0_6 : Hid (RdE W6 (.slice o0 n0 k0) n0 A0) := R0_5.out.below bb
      have R1_6 : Hid (RdE W6 (.slice o1 n1 k1) n1 A1) := R1_5.out.below bb
      have N01_6 : Hid (RdR W6 (.slice p01 l01 y01) L01.length (atR L01)) := N01_5.out.below bb
      have Ms_6 : Hid (RdE W6 (.slice os n1 ks) n1 A1) := Ms_5.out.below bb
      have Q_6 := bup Q_5 (Nat.le_of_eq HH.out.symm) bb
      clear a_5 b_5 g_5 R0_5 R1_5 N01_5 Ms_5 Q_5 bb hb
      have cs0 := s_6.cell 0 _ rfl
      have cs1 := s_6.cell 1 _ rfl
      have cs2 := s_6.cell 2 _ rfl
      have ls := s_6.lt
      have cb0 := b_6.cell 0 _ rfl
      have cb1 := b_6.cell 1 _ rfl
      have cb2 := b_6.cell 2 _ rfl
      have lb := b_6.lt
      go_wp2_with fail
      refine (sn_same _ t1 m1 _ _ n1 A1 Ms_6.out R1_6.out).mono ?_; rintro e w7 ⟨rfl, bb⟩
      have a_7 := a_6.below bb a_6.lt
      have b_7 := b_6.below bb b_6.lt
      have g_7 := g_6.below bb g_6.lt
      have s_7 := s_6.below bb s_6.lt
      have R0_7 : Hid (RdE w7 (.slice o0 n0 k0) n0 A0) := R0_6.out.below bb
      have R1_7 : Hid (RdE w7 (.slice o1 n1 k1) n1 A1) := R1_6.out.below bb
      have N01_7 : Hid (RdR w7 (.slice p01 l01 y01) L01.length (atR L01)) := N01_6.out.below bb
      have Ms_7 : Hid (RdE w7 (.slice os n1 ks) n1 A1) := Ms_6.out.below bb
      have Q_7 := bup Q_6 (Nat.le_of_eq HH.out.symm) bb
      clear cs0 cs1 cs2 ls cb0 cb1 cb2 lb
      clear a_6 b_6 g_6 s_6 R0_6 R1_6 N01_6 Ms_6 Q_6 bb
      have cs0 := s_7.cell 0 _ rfl
      have cs1 := s_7.cell 1 _ rfl
      have cs2 := s_7.cell 2 _ rfl
      have ls := s_7.lt
      go_wp2_with fail
      refine (X02.out _ _ Ms_7.out).mono ?_; rintro e w8 ⟨rfl, bb⟩
      have a_8 := a_7.below bb a_7.lt
      have b_8 := b_7.below bb b_7.lt
      have g_8 := g_7.below bb g_7.lt
      have s_8 := s_7.below bb s_7.lt
      have R0_8 : Hid (RdE w8 (.slice o0 n0 k0) n0 A0) := R0_7.out.below bb
      have R1_8 : Hid (RdE w8 (.slice o1 n1 k1) n1 A1) := R1_7.out.below bb
      have N01_8 : Hid (RdR w8 (.slice p01 l01 y01) L01.length (atR L01)) := N01_7.out.below bb
      have Ms_8 : Hid (RdE w8 (.slice os n1 ks) n1 A1) := Ms_7.out.below bb
      have Q_8 := bup Q_7 (Nat.le_of_eq HH.out.symm) bb
      clear cs0 cs1 cs2 ls
      clear a_7 b_7 g_7 s_7 R0_7 R1_7 N01_7 Ms_7 Q_7 bb
      clear X02
      clear s_8
      clear Ms_8
      have cg0 := g_8.cell 0 _ rfl
      have cg1 := g_8.cell 1 _ rfl
      have cg2 := g_8.cell 2 _ rfl
      have cg3 := g_8.cell 3 _ rfl
      have lg := g_8.lt
      go_wp2_with fail
      refine (X03.out _ _ N01_8.out).mono ?_; rintro e w9 ⟨xw, rfl, own, bb⟩
      have XX : Hid (Rd w9 xw XW) := own.rd
      obtain ⟨ow, kw, ev, -⟩ := own.rd
      clear own
      obtain ⟨nw, hnw⟩ : ∃ x, XW.length = x := ⟨_, rfl⟩
      rw [hnw] at ev
      clear hnw
      subst ev
      have a_9 := a_8.below bb a_8.lt
      have b_9 := b_8.below bb b_8.lt
      have g_9 := g_8.below bb g_8.lt
      have R0_9 : Hid (RdE w9 (.slice o0 n0 k0) n0 A0) := R0_8.out.below bb
      have R1_9 : Hid (RdE w9 (.slice o1 n1 k1) n1 A1) := R1_8.out.below bb
      have N01_9 : Hid (RdR w9 (.slice p01 l01 y01) L01.length (atR L01)) := N01_8.out.below bb
      have Q_9 := bup Q_8 (Nat.le_of_eq HH.out.symm) bb
      clear cg0 cg1 cg2 cg3 lg
      clear a_8 b_8 g_8 R0_8 R1_8 N01_8 Q_8 bb
      have XX_9 := XX
      clear XX X03
      by_cases hzW : EW = 0
      · have Y04 := X04.out hzW
        clear X04
        subst hzW
        have X04 : Hid (_) := Y04
        clear Y04
        go_wp2_with fail
        refine (X04.out _ _ XX_9.out).mono ?_; rintro e w10 ⟨xi, rfl, own, bb⟩
        have NI : Hid (RdR w10 xi L01.length (atR L01)) := own.atR
        obtain ⟨oi, ki, ev⟩ := own.form
        rw [HL01.out] at ev
        clear own
        subst ev
        clear XX_9
        have a_10 := a_9.below bb a_9.lt
        have b_10 := b_9.below bb b_9.lt
        have g_10 := g_9.below bb g_9.lt
        have R0_10 : Hid (RdE w10 (.slice o0 n0 k0) n0 A0) := R0_9.out.below bb
        have R1_10 : Hid (RdE w10 (.slice o1 n1 k1) n1 A1) := R1_9.out.below bb
        have N01_10 : Hid (RdR w10 (.slice p01 l01 y01) L01.length (atR L01)) := N01_9.out.below bb
        have Q_10 := bup Q_9 (Nat.le_of_eq HH.out.symm) bb
        clear a_9 b_9 g_9 R0_9 R1_9 N01_9 Q_9 bb
        have NI_10 := NI
        clear NI X04
        go_upto_region 11 with fail
        generalize hW : w10.alloc (.cells #[.int .i64 t1, .int .i64 m1, .int .i64 t0, .slice oi l01 ki] 29) = W11
        obtain ⟨i_11, bb, -⟩ := boxed hW
        obtain ⟨bi, hb⟩ : ∃ x, w10.heap.size = x := ⟨_, rfl⟩
        rw [hb] at i_11 ⊢
        clear hW
        have a_11 := a_10.below bb a_10.lt
        have b_11 := b_10.below bb b_10.lt
        have g_11 := g_10.below bb g_10.lt
        have R0_11 : Hid (RdE W11 (.slice o0 n0 k0) n0 A0) := R0_10.out.below bb
        have R1_11 : Hid (RdE W11 (.slice o1 n1 k1) n1 A1) := R1_10.out.below bb
        have N01_11 : Hid (RdR W11 (.slice p01 l01 y01) L01.length (atR L01)) := N01_10.out.below bb
        have NI_11 : Hid (RdR W11 (.slice oi l01 ki) L01.length (atR L01)) := NI_10.out.below bb
        have Q_11 := bup Q_10 (Nat.le_of_eq HH.out.symm) bb
        clear a_10 b_10 g_10 R0_10 R1_10 N01_10 NI_10 Q_10 bb hb
        have ci0 := i_11.cell 0 _ rfl
        have ci1 := i_11.cell 1 _ rfl
        have ci2 := i_11.cell 2 _ rfl
        have ci3 := i_11.cell 3 _ rfl
        have li := i_11.lt
        have cg0 := g_11.cell 0 _ rfl
        have cg1 := g_11.cell 1 _ rfl
        have cg2 := g_11.cell 2 _ rfl
        have cg3 := g_11.cell 3 _ rfl
        have lg := g_11.lt
        go_wp2_with fail
        refine (dg_same _ ⟨t1, m1, t0⟩ _ _ L01.length (atR L01) NI_11.out N01_11.out).mono ?_; rintro e w12 ⟨rfl, bb⟩
        clear i_11
        clear g_11
        clear NI_11
        clear N01_11
        have a_12 := a_11.below bb a_11.lt
        have b_12 := b_11.below bb b_11.lt
        have R0_12 : Hid (RdE w12 (.slice o0 n0 k0) n0 A0) := R0_11.out.below bb
        have R1_12 : Hid (RdE w12 (.slice o1 n1 k1) n1 A1) := R1_11.out.below bb
        have Q_12 := bup Q_11 (Nat.le_of_eq HH.out.symm) bb
        clear ci0 ci1 ci2 ci3 li cg0 cg1 cg2 cg3 lg
        clear a_11 b_11 R0_11 R1_11 Q_11 bb
        have cb0 := b_12.cell 0 _ rfl
        have cb1 := b_12.cell 1 _ rfl
        have cb2 := b_12.cell 2 _ rfl
        have lb := b_12.lt
        go_wp2_with fail
        refine (FU.out _ R1_12.out).mono ?_; rintro e w13 ⟨vF, rfl, own, bb⟩
        have NF : Hid (RdR w13 vF LF.length (atR LF)) := own.atR
        obtain ⟨pF, yF, ev⟩ := own.form
        obtain ⟨lF, hl⟩ : ∃ x, LF.length = x := ⟨_, rfl⟩
        have HLF : Hid (LF.length = lF) := hl
        rw [hl] at ev
        clear own hl
        subst ev
        have a_13 := a_12.below bb a_12.lt
        have b_13 := b_12.below bb b_12.lt
        have R0_13 : Hid (RdE w13 (.slice o0 n0 k0) n0 A0) := R0_12.out.below bb
        have R1_13 : Hid (RdE w13 (.slice o1 n1 k1) n1 A1) := R1_12.out.below bb
        have Q_13 := bup Q_12 (Nat.le_of_eq HH.out.symm) bb
        clear cb0 cb1 cb2 lb
        clear a_12 b_12 R0_12 R1_12 Q_12 bb
        have NF_13 := NF
        clear NF FU
        go_upto_region 14 with fail
        generalize hW : w13.alloc (.cells #[.int .i64 gFa, .int .i64 gFb, .int .i64 gFc, .slice pF lF yF] 29) = W14
        obtain ⟨f_14, bb, -⟩ := boxed hW
        obtain ⟨bf, hb⟩ : ∃ x, w13.heap.size = x := ⟨_, rfl⟩
        rw [hb] at f_14 ⊢
        clear hW
        have a_14 := a_13.below bb a_13.lt
        have b_14 := b_13.below bb b_13.lt
        have R0_14 : Hid (RdE W14 (.slice o0 n0 k0) n0 A0) := R0_13.out.below bb
        have R1_14 : Hid (RdE W14 (.slice o1 n1 k1) n1 A1) := R1_13.out.below bb
        have NF_14 : Hid (RdR W14 (.slice pF lF yF) LF.length (atR LF)) := NF_13.out.below bb
        have Q_14 := bup Q_13 (Nat.le_of_eq HH.out.symm) bb
        clear a_13 b_13 R0_13 R1_13 NF_13 Q_13 bb hb
        by_cases hzF : fF = 0
        · have hgF := FG.out hzF
          injection hgF with haF hbF hcF
          have YF := FZ.out hzF
          clear FZ FG FN
          replace haF := haF.symm; replace hbF := hbF.symm; replace hcF := hcF.symm
          subst haF hbF hcF hzF
          have XF : Hid (_) := YF
          clear YF
          have ca0 := a_14.cell 0 _ rfl
          have ca1 := a_14.cell 1 _ rfl
          have ca2 := a_14.cell 2 _ rfl
          have la := a_14.lt
          have cf0 := f_14.cell 0 _ rfl
          have cf1 := f_14.cell 1 _ rfl
          have cf2 := f_14.cell 2 _ rfl
          have cf3 := f_14.cell 3 _ rfl
          have lf := f_14.lt
          go_wp2_with fail
          refine (XF.out _ _ _ R0_14.out NF_14.out).mono ?_; rintro e w15 ⟨xF, rfl, own, bb⟩
          have MF : Hid (RdE w15 xF n1 A1) := rdE_pre own
          obtain ⟨oF, kF, ev⟩ := own.form
          rw [preE_len] at ev
          clear own
          subst ev
          have a_15 := a_14.below bb a_14.lt
          have b_15 := b_14.below bb b_14.lt
          have f_15 := f_14.below bb f_14.lt
          have R0_15 : Hid (RdE w15 (.slice o0 n0 k0) n0 A0) := R0_14.out.below bb
          have R1_15 : Hid (RdE w15 (.slice o1 n1 k1) n1 A1) := R1_14.out.below bb
          have NF_15 : Hid (RdR w15 (.slice pF lF yF) LF.length (atR LF)) := NF_14.out.below bb
          have Q_15 := bup Q_14 (Nat.le_of_eq HH.out.symm) bb
          clear ca0 ca1 ca2 la cf0 cf1 cf2 cf3 lf
          clear a_14 b_14 f_14 R0_14 R1_14 NF_14 Q_14 bb
          have MF_15 := MF
          clear MF XF
          go_upto_region 17 with fail
          generalize hW : w15.alloc (.cells #[.int .i64 t1, .int .i64 m1, .slice oF n1 kF] 24) = W16
          obtain ⟨x_16, bb, -⟩ := boxed hW
          obtain ⟨bx, hb⟩ : ∃ x, w15.heap.size = x := ⟨_, rfl⟩
          rw [hb] at x_16 ⊢
          clear hW
          have a_16 := a_15.below bb a_15.lt
          have b_16 := b_15.below bb b_15.lt
          have f_16 := f_15.below bb f_15.lt
          have R0_16 : Hid (RdE W16 (.slice o0 n0 k0) n0 A0) := R0_15.out.below bb
          have R1_16 : Hid (RdE W16 (.slice o1 n1 k1) n1 A1) := R1_15.out.below bb
          have NF_16 : Hid (RdR W16 (.slice pF lF yF) LF.length (atR LF)) := NF_15.out.below bb
          have MF_16 : Hid (RdE W16 (.slice oF n1 kF) n1 A1) := MF_15.out.below bb
          have Q_16 := bup Q_15 (Nat.le_of_eq HH.out.symm) bb
          clear a_15 b_15 f_15 R0_15 R1_15 NF_15 MF_15 Q_15 bb hb
          go_wp2_with fail
          refine (dl_alive _).mono ?_; rintro e w17 ⟨rfl, bb⟩
          have a_17 := a_16.below bb a_16.lt
          have b_17 := b_16.below bb b_16.lt
          have f_17 := f_16.below bb f_16.lt
          have x_17 := x_16.below bb x_16.lt
          have R0_17 : Hid (RdE w17 (.slice o0 n0 k0) n0 A0) := R0_16.out.below bb
          have R1_17 : Hid (RdE w17 (.slice o1 n1 k1) n1 A1) := R1_16.out.below bb
          have NF_17 : Hid (RdR w17 (.slice pF lF yF) LF.length (atR LF)) := NF_16.out.below bb
          have MF_17 : Hid (RdE w17 (.slice oF n1 kF) n1 A1) := MF_16.out.below bb
          have Q_17 := bup Q_16 (Nat.le_of_eq HH.out.symm) bb
          clear a_16 b_16 f_16 x_16 R0_16 R1_16 NF_16 MF_16 Q_16 bb
          have cx0 := x_17.cell 0 _ rfl
          have cx1 := x_17.cell 1 _ rfl
          have cx2 := x_17.cell 2 _ rfl
          have lx := x_17.lt
          have cb0 := b_17.cell 0 _ rfl
          have cb1 := b_17.cell 1 _ rfl
          have cb2 := b_17.cell 2 _ rfl
          have lb := b_17.lt
          have cf0 := f_17.cell 0 _ rfl
          have cf1 := f_17.cell 1 _ rfl
          have cf2 := f_17.cell 2 _ rfl
          have cf3 := f_17.cell 3 _ rfl
          have lf := f_17.lt
          go_wp2_with fail
          refine (sn_same _ t1 m1 _ _ n1 A1 MF_17.out R1_17.out).mono ?_; rintro e w18 ⟨rfl, bb⟩
          have a_18 := a_17.below bb a_17.lt
          have b_18 := b_17.below bb b_17.lt
          have f_18 := f_17.below bb f_17.lt
          have x_18 := x_17.below bb x_17.lt
          have R0_18 : Hid (RdE w18 (.slice o0 n0 k0) n0 A0) := R0_17.out.below bb
          have R1_18 : Hid (RdE w18 (.slice o1 n1 k1) n1 A1) := R1_17.out.below bb
          have NF_18 : Hid (RdR w18 (.slice pF lF yF) LF.length (atR LF)) := NF_17.out.below bb
          have MF_18 : Hid (RdE w18 (.slice oF n1 kF) n1 A1) := MF_17.out.below bb
          have Q_18 := bup Q_17 (Nat.le_of_eq HH.out.symm) bb
          clear cx0 cx1 cx2 lx cb0 cb1 cb2 lb cf0 cf1 cf2 cf3 lf
          clear a_17 b_17 f_17 x_17 R0_17 R1_17 NF_17 MF_17 Q_17 bb
          have cf0 := f_18.cell 0 _ rfl
          have cf1 := f_18.cell 1 _ rfl
          have cf2 := f_18.cell 2 _ rfl
          have cf3 := f_18.cell 3 _ rfl
          have lf := f_18.lt
          go_wp2_with fail
          go_ret
          exact ⟨rfl, by rw [HH.out]; exact Q_18⟩
        · have hq : (fF == 0) = false := by simp [hzF]
          have hl0 := FN.out hzF
          have hl1 := HLF.out
          rw [hl0] at hl1
          clear FN FZ FG HLF NF_14 hl0
          replace hl1 := hl1.symm
          simp only [List.length_nil] at hl1
          subst hl1
          go_wp2_with fail
          refine (dl_alive _).mono ?_; rintro e w15 ⟨rfl, bb⟩
          have a_15 := a_14.below bb a_14.lt
          have b_15 := b_14.below bb b_14.lt
          have f_15 := f_14.below bb f_14.lt
          have R0_15 : Hid (RdE w15 (.slice o0 n0 k0) n0 A0) := R0_14.out.below bb
          have R1_15 : Hid (RdE w15 (.slice o1 n1 k1) n1 A1) := R1_14.out.below bb
          have Q_15 := bup Q_14 (Nat.le_of_eq HH.out.symm) bb
          clear a_14 b_14 f_14 R0_14 R1_14 Q_14 bb
          have cf0 := f_15.cell 0 _ rfl
          have cf1 := f_15.cell 1 _ rfl
          have cf2 := f_15.cell 2 _ rfl
          have cf3 := f_15.cell 3 _ rfl
          have lf := f_15.lt
          go_wp2_with fail
          go_ret
          exact ⟨rfl, by rw [HH.out]; exact Q_15⟩
      · have hqW : (EW == 0) = false := by simp [hzW]
        clear X04 XX_9 N01_9 g_9
        have cb0 := b_9.cell 0 _ rfl
        have cb1 := b_9.cell 1 _ rfl
        have cb2 := b_9.cell 2 _ rfl
        have lb := b_9.lt
        go_wp2_with fail
        refine (FU.out _ R1_9.out).mono ?_; rintro e w10 ⟨vF, rfl, own, bb⟩
        have NF : Hid (RdR w10 vF LF.length (atR LF)) := own.atR
        obtain ⟨pF, yF, ev⟩ := own.form
        obtain ⟨lF, hl⟩ : ∃ x, LF.length = x := ⟨_, rfl⟩
        have HLF : Hid (LF.length = lF) := hl
        rw [hl] at ev
        clear own hl
        subst ev
        have a_10 := a_9.below bb a_9.lt
        have b_10 := b_9.below bb b_9.lt
        have R0_10 : Hid (RdE w10 (.slice o0 n0 k0) n0 A0) := R0_9.out.below bb
        have R1_10 : Hid (RdE w10 (.slice o1 n1 k1) n1 A1) := R1_9.out.below bb
        have Q_10 := bup Q_9 (Nat.le_of_eq HH.out.symm) bb
        clear cb0 cb1 cb2 lb
        clear a_9 b_9 R0_9 R1_9 Q_9 bb
        have NF_10 := NF
        clear NF FU
        go_upto_region 14 with fail
        generalize hW : w10.alloc (.cells #[.int .i64 gFa, .int .i64 gFb, .int .i64 gFc, .slice pF lF yF] 29) = W11
        obtain ⟨f_11, bb, -⟩ := boxed hW
        obtain ⟨bf, hb⟩ : ∃ x, w10.heap.size = x := ⟨_, rfl⟩
        rw [hb] at f_11 ⊢
        clear hW
        have a_11 := a_10.below bb a_10.lt
        have b_11 := b_10.below bb b_10.lt
        have R0_11 : Hid (RdE W11 (.slice o0 n0 k0) n0 A0) := R0_10.out.below bb
        have R1_11 : Hid (RdE W11 (.slice o1 n1 k1) n1 A1) := R1_10.out.below bb
        have NF_11 : Hid (RdR W11 (.slice pF lF yF) LF.length (atR LF)) := NF_10.out.below bb
        have Q_11 := bup Q_10 (Nat.le_of_eq HH.out.symm) bb
        clear a_10 b_10 R0_10 R1_10 NF_10 Q_10 bb hb
        by_cases hzF : fF = 0
        · have hgF := FG.out hzF
          injection hgF with haF hbF hcF
          have YF := FZ.out hzF
          clear FZ FG FN
          replace haF := haF.symm; replace hbF := hbF.symm; replace hcF := hcF.symm
          subst haF hbF hcF hzF
          have XF : Hid (_) := YF
          clear YF
          have ca0 := a_11.cell 0 _ rfl
          have ca1 := a_11.cell 1 _ rfl
          have ca2 := a_11.cell 2 _ rfl
          have la := a_11.lt
          have cf0 := f_11.cell 0 _ rfl
          have cf1 := f_11.cell 1 _ rfl
          have cf2 := f_11.cell 2 _ rfl
          have cf3 := f_11.cell 3 _ rfl
          have lf := f_11.lt
          go_wp2_with fail
          refine (XF.out _ _ _ R0_11.out NF_11.out).mono ?_; rintro e w12 ⟨xF, rfl, own, bb⟩
          have MF : Hid (RdE w12 xF n1 A1) := rdE_pre own
          obtain ⟨oF, kF, ev⟩ := own.form
          rw [preE_len] at ev
          clear own
          subst ev
          have a_12 := a_11.below bb a_11.lt
          have b_12 := b_11.below bb b_11.lt
          have f_12 := f_11.below bb f_11.lt
          have R0_12 : Hid (RdE w12 (.slice o0 n0 k0) n0 A0) := R0_11.out.below bb
          have R1_12 : Hid (RdE w12 (.slice o1 n1 k1) n1 A1) := R1_11.out.below bb
          have NF_12 : Hid (RdR w12 (.slice pF lF yF) LF.length (atR LF)) := NF_11.out.below bb
          have Q_12 := bup Q_11 (Nat.le_of_eq HH.out.symm) bb
          clear ca0 ca1 ca2 la cf0 cf1 cf2 cf3 lf
          clear a_11 b_11 f_11 R0_11 R1_11 NF_11 Q_11 bb
          have MF_12 := MF
          clear MF XF
          go_upto_region 17 with fail
          generalize hW : w12.alloc (.cells #[.int .i64 t1, .int .i64 m1, .slice oF n1 kF] 24) = W13
          obtain ⟨x_13, bb, -⟩ := boxed hW
          obtain ⟨bx, hb⟩ : ∃ x, w12.heap.size = x := ⟨_, rfl⟩
          rw [hb] at x_13 ⊢
          clear hW
          have a_13 := a_12.below bb a_12.lt
          have b_13 := b_12.below bb b_12.lt
          have f_13 := f_12.below bb f_12.lt
          have R0_13 : Hid (RdE W13 (.slice o0 n0 k0) n0 A0) := R0_12.out.below bb
          have R1_13 : Hid (RdE W13 (.slice o1 n1 k1) n1 A1) := R1_12.out.below bb
          have NF_13 : Hid (RdR W13 (.slice pF lF yF) LF.length (atR LF)) := NF_12.out.below bb
          have MF_13 : Hid (RdE W13 (.slice oF n1 kF) n1 A1) := MF_12.out.below bb
          have Q_13 := bup Q_12 (Nat.le_of_eq HH.out.symm) bb
          clear a_12 b_12 f_12 R0_12 R1_12 NF_12 MF_12 Q_12 bb hb
          go_wp2_with fail
          refine (dl_alive _).mono ?_; rintro e w14 ⟨rfl, bb⟩
          have a_14 := a_13.below bb a_13.lt
          have b_14 := b_13.below bb b_13.lt
          have f_14 := f_13.below bb f_13.lt
          have x_14 := x_13.below bb x_13.lt
          have R0_14 : Hid (RdE w14 (.slice o0 n0 k0) n0 A0) := R0_13.out.below bb
          have R1_14 : Hid (RdE w14 (.slice o1 n1 k1) n1 A1) := R1_13.out.below bb
          have NF_14 : Hid (RdR w14 (.slice pF lF yF) LF.length (atR LF)) := NF_13.out.below bb
          have MF_14 : Hid (RdE w14 (.slice oF n1 kF) n1 A1) := MF_13.out.below bb
          have Q_14 := bup Q_13 (Nat.le_of_eq HH.out.symm) bb
          clear a_13 b_13 f_13 x_13 R0_13 R1_13 NF_13 MF_13 Q_13 bb
          have cx0 := x_14.cell 0 _ rfl
          have cx1 := x_14.cell 1 _ rfl
          have cx2 := x_14.cell 2 _ rfl
          have lx := x_14.lt
          have cb0 := b_14.cell 0 _ rfl
          have cb1 := b_14.cell 1 _ rfl
          have cb2 := b_14.cell 2 _ rfl
          have lb := b_14.lt
          have cf0 := f_14.cell 0 _ rfl
          have cf1 := f_14.cell 1 _ rfl
          have cf2 := f_14.cell 2 _ rfl
          have cf3 := f_14.cell 3 _ rfl
          have lf := f_14.lt
          go_wp2_with fail
          refine (sn_same _ t1 m1 _ _ n1 A1 MF_14.out R1_14.out).mono ?_; rintro e w15 ⟨rfl, bb⟩
          have a_15 := a_14.below bb a_14.lt
          have b_15 := b_14.below bb b_14.lt
          have f_15 := f_14.below bb f_14.lt
          have x_15 := x_14.below bb x_14.lt
          have R0_15 : Hid (RdE w15 (.slice o0 n0 k0) n0 A0) := R0_14.out.below bb
          have R1_15 : Hid (RdE w15 (.slice o1 n1 k1) n1 A1) := R1_14.out.below bb
          have NF_15 : Hid (RdR w15 (.slice pF lF yF) LF.length (atR LF)) := NF_14.out.below bb
          have MF_15 : Hid (RdE w15 (.slice oF n1 kF) n1 A1) := MF_14.out.below bb
          have Q_15 := bup Q_14 (Nat.le_of_eq HH.out.symm) bb
          clear cx0 cx1 cx2 lx cb0 cb1 cb2 lb cf0 cf1 cf2 cf3 lf
          clear a_14 b_14 f_14 x_14 R0_14 R1_14 NF_14 MF_14 Q_14 bb
          have cf0 := f_15.cell 0 _ rfl
          have cf1 := f_15.cell 1 _ rfl
          have cf2 := f_15.cell 2 _ rfl
          have cf3 := f_15.cell 3 _ rfl
          have lf := f_15.lt
          go_wp2_with fail
          go_ret
          exact ⟨rfl, by rw [HH.out]; exact Q_15⟩
        · have hq : (fF == 0) = false := by simp [hzF]
          have hl0 := FN.out hzF
          have hl1 := HLF.out
          rw [hl0] at hl1
          clear FN FZ FG HLF NF_11 hl0
          replace hl1 := hl1.symm
          simp only [List.length_nil] at hl1
          subst hl1
          go_wp2_with fail
          refine (dl_alive _).mono ?_; rintro e w12 ⟨rfl, bb⟩
          have a_12 := a_11.below bb a_11.lt
          have b_12 := b_11.below bb b_11.lt
          have f_12 := f_11.below bb f_11.lt
          have R0_12 : Hid (RdE w12 (.slice o0 n0 k0) n0 A0) := R0_11.out.below bb
          have R1_12 : Hid (RdE w12 (.slice o1 n1 k1) n1 A1) := R1_11.out.below bb
          have Q_12 := bup Q_11 (Nat.le_of_eq HH.out.symm) bb
          clear a_11 b_11 f_11 R0_11 R1_11 Q_11 bb
          have cf0 := f_12.cell 0 _ rfl
          have cf1 := f_12.cell 1 _ rfl
          have cf2 := f_12.cell 2 _ rfl
          have cf3 := f_12.cell 3 _ rfl
          have lf := f_12.lt
          go_wp2_with fail
          go_ret
          exact ⟨rfl, by rw [HH.out]; exact Q_12⟩
    · have hq01 : (f01 == 0) = false := by simp [hz01]
      clear G01 Z01 K01 W01 B01 N01_4 g_4
      have cb0 := b_4.cell 0 _ rfl
      have cb1 := b_4.cell 1 _ rfl
      have cb2 := b_4.cell 2 _ rfl
      have lb := b_4.lt
      go_wp2_with fail
      refine (FU.out _ R1_4.out).mono ?_; rintro e w5 ⟨vF, rfl, own, bb⟩
      have NF : Hid (RdR w5 vF LF.length (atR LF)) := own.atR
      obtain ⟨pF, yF, ev⟩ := own.form
      obtain ⟨lF, hl⟩ : ∃ x, LF.length = x := ⟨_, rfl⟩
      have HLF : Hid (LF.length = lF) := hl
      rw [hl] at ev
      clear own hl
      subst ev
      have a_5 := a_4.below bb a_4.lt
      have b_5 := b_4.below bb b_4.lt
      have R0_5 : Hid (RdE w5 (.slice o0 n0 k0) n0 A0) := R0_4.out.below bb
      have R1_5 : Hid (RdE w5 (.slice o1 n1 k1) n1 A1) := R1_4.out.below bb
      have Q_5 := bup Q_4 (Nat.le_of_eq HH.out.symm) bb
      clear cb0 cb1 cb2 lb
      clear a_4 b_4 R0_4 R1_4 Q_4 bb
      have NF_5 := NF
      clear NF FU
      go_upto_region 14 with fail
      generalize hW : w5.alloc (.cells #[.int .i64 gFa, .int .i64 gFb, .int .i64 gFc, .slice pF lF yF] 29) = W6
      obtain ⟨f_6, bb, -⟩ := boxed hW
      obtain ⟨bf, hb⟩ : ∃ x, w5.heap.size = x := ⟨_, rfl⟩
      rw [hb] at f_6 ⊢
      clear hW
      have a_6 := a_5.below bb a_5.lt
      have b_6 := b_5.below bb b_5.lt
      have R0_6 : Hid (RdE W6 (.slice o0 n0 k0) n0 A0) := R0_5.out.below bb
      have R1_6 : Hid (RdE W6 (.slice o1 n1 k1) n1 A1) := R1_5.out.below bb
      have NF_6 : Hid (RdR W6 (.slice pF lF yF) LF.length (atR LF)) := NF_5.out.below bb
      have Q_6 := bup Q_5 (Nat.le_of_eq HH.out.symm) bb
      clear a_5 b_5 R0_5 R1_5 NF_5 Q_5 bb hb
      by_cases hzF : fF = 0
      · have hgF := FG.out hzF
        injection hgF with haF hbF hcF
        have YF := FZ.out hzF
        clear FZ FG FN
        replace haF := haF.symm; replace hbF := hbF.symm; replace hcF := hcF.symm
        subst haF hbF hcF hzF
        have XF : Hid (_) := YF
        clear YF
        have ca0 := a_6.cell 0 _ rfl
        have ca1 := a_6.cell 1 _ rfl
        have ca2 := a_6.cell 2 _ rfl
        have la := a_6.lt
        have cf0 := f_6.cell 0 _ rfl
        have cf1 := f_6.cell 1 _ rfl
        have cf2 := f_6.cell 2 _ rfl
        have cf3 := f_6.cell 3 _ rfl
        have lf := f_6.lt
        go_wp2_with fail
        refine (XF.out _ _ _ R0_6.out NF_6.out).mono ?_; rintro e w7 ⟨xF, rfl, own, bb⟩
        have MF : Hid (RdE w7 xF n1 A1) := rdE_pre own
        obtain ⟨oF, kF, ev⟩ := own.form
        rw [preE_len] at ev
        clear own
        subst ev
        have a_7 := a_6.below bb a_6.lt
        have b_7 := b_6.below bb b_6.lt
        have f_7 := f_6.below bb f_6.lt
        have R0_7 : Hid (RdE w7 (.slice o0 n0 k0) n0 A0) := R0_6.out.below bb
        have R1_7 : Hid (RdE w7 (.slice o1 n1 k1) n1 A1) := R1_6.out.below bb
        have NF_7 : Hid (RdR w7 (.slice pF lF yF) LF.length (atR LF)) := NF_6.out.below bb
        have Q_7 := bup Q_6 (Nat.le_of_eq HH.out.symm) bb
        clear ca0 ca1 ca2 la cf0 cf1 cf2 cf3 lf
        clear a_6 b_6 f_6 R0_6 R1_6 NF_6 Q_6 bb
        have MF_7 := MF
        clear MF XF
        go_upto_region 17 with fail
        generalize hW : w7.alloc (.cells #[.int .i64 t1, .int .i64 m1, .slice oF n1 kF] 24) = W8
        obtain ⟨x_8, bb, -⟩ := boxed hW
        obtain ⟨bx, hb⟩ : ∃ x, w7.heap.size = x := ⟨_, rfl⟩
        rw [hb] at x_8 ⊢
        clear hW
        have a_8 := a_7.below bb a_7.lt
        have b_8 := b_7.below bb b_7.lt
        have f_8 := f_7.below bb f_7.lt
        have R0_8 : Hid (RdE W8 (.slice o0 n0 k0) n0 A0) := R0_7.out.below bb
        have R1_8 : Hid (RdE W8 (.slice o1 n1 k1) n1 A1) := R1_7.out.below bb
        have NF_8 : Hid (RdR W8 (.slice pF lF yF) LF.length (atR LF)) := NF_7.out.below bb
        have MF_8 : Hid (RdE W8 (.slice oF n1 kF) n1 A1) := MF_7.out.below bb
        have Q_8 := bup Q_7 (Nat.le_of_eq HH.out.symm) bb
        clear a_7 b_7 f_7 R0_7 R1_7 NF_7 MF_7 Q_7 bb hb
        go_wp2_with fail
        refine (dl_alive _).mono ?_; rintro e w9 ⟨rfl, bb⟩
        have a_9 := a_8.below bb a_8.lt
        have b_9 := b_8.below bb b_8.lt
        have f_9 := f_8.below bb f_8.lt
        have x_9 := x_8.below bb x_8.lt
        have R0_9 : Hid (RdE w9 (.slice o0 n0 k0) n0 A0) := R0_8.out.below bb
        have R1_9 : Hid (RdE w9 (.slice o1 n1 k1) n1 A1) := R1_8.out.below bb
        have NF_9 : Hid (RdR w9 (.slice pF lF yF) LF.length (atR LF)) := NF_8.out.below bb
        have MF_9 : Hid (RdE w9 (.slice oF n1 kF) n1 A1) := MF_8.out.below bb
        have Q_9 := bup Q_8 (Nat.le_of_eq HH.out.symm) bb
        clear a_8 b_8 f_8 x_8 R0_8 R1_8 NF_8 MF_8 Q_8 bb
        have cx0 := x_9.cell 0 _ rfl
        have cx1 := x_9.cell 1 _ rfl
        have cx2 := x_9.cell 2 _ rfl
        have lx := x_9.lt
        have cb0 := b_9.cell 0 _ rfl
        have cb1 := b_9.cell 1 _ rfl
        have cb2 := b_9.cell 2 _ rfl
        have lb := b_9.lt
        have cf0 := f_9.cell 0 _ rfl
        have cf1 := f_9.cell 1 _ rfl
        have cf2 := f_9.cell 2 _ rfl
        have cf3 := f_9.cell 3 _ rfl
        have lf := f_9.lt
        go_wp2_with fail
        refine (sn_same _ t1 m1 _ _ n1 A1 MF_9.out R1_9.out).mono ?_; rintro e w10 ⟨rfl, bb⟩
        have a_10 := a_9.below bb a_9.lt
        have b_10 := b_9.below bb b_9.lt
        have f_10 := f_9.below bb f_9.lt
        have x_10 := x_9.below bb x_9.lt
        have R0_10 : Hid (RdE w10 (.slice o0 n0 k0) n0 A0) := R0_9.out.below bb
        have R1_10 : Hid (RdE w10 (.slice o1 n1 k1) n1 A1) := R1_9.out.below bb
        have NF_10 : Hid (RdR w10 (.slice pF lF yF) LF.length (atR LF)) := NF_9.out.below bb
        have MF_10 : Hid (RdE w10 (.slice oF n1 kF) n1 A1) := MF_9.out.below bb
        have Q_10 := bup Q_9 (Nat.le_of_eq HH.out.symm) bb
        clear cx0 cx1 cx2 lx cb0 cb1 cb2 lb cf0 cf1 cf2 cf3 lf
        clear a_9 b_9 f_9 x_9 R0_9 R1_9 NF_9 MF_9 Q_9 bb
        have cf0 := f_10.cell 0 _ rfl
        have cf1 := f_10.cell 1 _ rfl
        have cf2 := f_10.cell 2 _ rfl
        have cf3 := f_10.cell 3 _ rfl
        have lf := f_10.lt
        go_wp2_with fail
        go_ret
        exact ⟨rfl, by rw [HH.out]; exact Q_10⟩
      · have hq : (fF == 0) = false := by simp [hzF]
        have hl0 := FN.out hzF
        have hl1 := HLF.out
        rw [hl0] at hl1
        clear FN FZ FG HLF NF_6 hl0
        replace hl1 := hl1.symm
        simp only [List.length_nil] at hl1
        subst hl1
        go_wp2_with fail
        refine (dl_alive _).mono ?_; rintro e w7 ⟨rfl, bb⟩
        have a_7 := a_6.below bb a_6.lt
        have b_7 := b_6.below bb b_6.lt
        have f_7 := f_6.below bb f_6.lt
        have R0_7 : Hid (RdE w7 (.slice o0 n0 k0) n0 A0) := R0_6.out.below bb
        have R1_7 : Hid (RdE w7 (.slice o1 n1 k1) n1 A1) := R1_6.out.below bb
        have Q_7 := bup Q_6 (Nat.le_of_eq HH.out.symm) bb
        clear a_6 b_6 f_6 R0_6 R1_6 Q_6 bb
        have cf0 := f_7.cell 0 _ rfl
        have cf1 := f_7.cell 1 _ rfl
        have cf2 := f_7.cell 2 _ rfl
        have cf3 := f_7.cell 3 _ rfl
        have lf := f_7.lt
        go_wp2_with fail
        go_ret
        exact ⟨rfl, by rw [HH.out]; exact Q_7⟩
  · -- one is
    go_wp2_with fail
    refine (dl_alive _).mono ?_; rintro e w9 ⟨rfl, b9⟩
    go_wp2_with fail
    go_ret
    exact ⟨rfl, by rw [HH.out]; exact bup Q_2 (Nat.le_of_eq HH.out.symm) b9⟩

set_option maxRecDepth 100000 in
theorem lifted (os : Os) (started : os.Started) (H : Type) (enc : TypeId × Value → H) :
    ReturnsInHanded {} Tryz.checked os 5 .any (Rows.deltaBackSpec.pre6 enc Tryz.prog Tryz.f5 Rows.deltaBackRow.domain false) (Rows.deltaBackSpec.post enc Tryz.prog Tryz.f5 false true false false) := by
  refine returnsInHanded_of_change (C := Tryz.checked) own started (by kernel_rfl) Tryz.func5
    (ChangeSpec.witness6 (enc := enc) (C := Tryz.checked) false ⟨#[], #[.agg #[.int .i64 0, .int .i64 0, .slice none 0 0], .agg #[.int .i64 0, .int .i64 0, .slice none 0 0]], []⟩ 8 (by kernel_rfl) (by kernel_rfl) (by kernel_rfl) (by kernel_rfl)) ?_
  intro W base args ds gs before hval0 hW hcnd _
  have hval : ∀ (j : Nat) t v, Tryz.f5.params[j]? = some t → args[j]? = some v → Value.okWide Tryz.prog W .any base t v := hval0
  have hW' := hW
  obtain ⟨p, q, hA0, hV, rfl, hfz, hnd⟩ := hW
  have hA : DataW.TrodAll enc Tryz.prog W 0 (fun _ => true) true Tryz.f5.params.toList args.toList ds p := hA0
  rw [Tryz.params5] at hA hval
  obtain ⟨v0, vs0, d0, ds0, p0, q0, hargs, rfl, rfl, h0, r0⟩ := trodAll_cons hA
  obtain ⟨v1, vs1, d1, ds1, p1, q1, rfl, rfl, rfl, h1, r1⟩ := trodAll_cons r0
  obtain ⟨rfl, rfl, rfl⟩ := trodAll_nil r1
  obtain rfl : args = #[v0, v1] := by cases args; simp_all
  obtain ⟨rfl, rfl⟩ := trodVars_none hV
  have hlt := hW'.lt
  have k0 := h0
  obtain ⟨t0, m0, u0, n0, A0, e0, st0, sm0, b0, rd0⟩ := open_snap (hval 0 24 v0 rfl rfl) h0
  subst e0
  have k1 := h1
  obtain ⟨t1, m1, u1, n1, A1, e1, st1, sm1, b1, rd1⟩ := open_snap (hval 1 24 v1 rfl rfl) h1
  subst e1
  clear hA0 hval0
  refine (walk W t0 m0 u0 n0 A0 st0 sm0 b0 rd0 t1 m1 u1 n1 A1 st1 sm1 b1 rd1).mono fun e W' ⟨he, hg⟩ => ?_
  subst he
  exact ⟨_, rfl, post_of_below hW' (fun _ _ _ => (trodAll_cons_mk (shut_bool Tryz.underlying4 _) trodAll_mk0)) (trodAll_cons_mk (Below.trod laidOut (by kernel_rfl) (of_decide_eq_true (by kernel_rfl)) k0 hg (fun x hx => by first | exact absurd hx (by simp) | exact hlt x (by simp [hx]))) (trodAll_cons_mk (Below.trod laidOut (by kernel_rfl) (of_decide_eq_true (by kernel_rfl)) k1 hg (fun x hx => by first | exact absurd hx (by simp) | exact hlt x (by simp [hx]))) trodAll_mk0)) rfl hg⟩

theorem over : Rows.deltaBackRow.holds Tryz.pinned (OpenSpec.ofChange Rows.deltaBackSpec) :=
  OpenClaim.holds_of_wide 5 Tryz.f5 rfl rfl rfl rfl rfl rfl rfl ⟨rfl, rfl, rfl, rfl, rfl⟩ rfl rfl rfl rfl rfl (by kernel_rfl) Tryz.func5 (by kernel_rfl)
    (of_decide_eq_true (by kernel_rfl)) (by unfold Func.isWrapper; first | (rw [if_pos (by decide +kernel)]; kernel_rfl) | (rw [if_neg (by decide +kernel)]; exact ⟨rfl, rfl⟩))
    (fun os started H enc _ => lifted os started H enc)
end DeltaBackL

theorem deltaBack_proved : Rows.DeltaBackSaid := DeltaBackL.over
#print axioms deltaBack_proved
end Go.Proofs.YtfoblmambbfphaaGreat
