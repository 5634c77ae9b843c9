/-
  Proved: of any two snapshots, and any Id, the difference, the whole, what is found, and what is refused are the document's (the law DeltaDiffs answers true at every input).
  Conditions: none.
-/
import Derived.Test.YtokegpajjicehaaGreatRows
import Derived.Test.YtokegpajjicehaaGreatP33
namespace Go.Proofs.YtokegpajjicehaaGreat
open Go.ChangeShapes Go.WideShapes Go.ChangeAt Go.RowKit
set_option linter.unusedVariables false

namespace DeltaDiffsL
theorem own : ownKnob Tryz.prog.godebug = none := by kernel_rfl

attribute [local go_sem ↓] eqR_run eqE_run eq6_run
attribute [local go_sem] eq3_run
set_option maxRecDepth 20000 in
set_option maxHeartbeats 16000000 in
theorem walk (w : World) (t0 m0 : Int) (u0 : Value) (n0 : Nat) (A0 : Nat → En) (s0 : S64 t0) (s0' : S64 m0) (e0 : ∀ i, i < n0 → (A0 i).ok) (r0 : RdE w u0 n0 A0)
    (t1 m1 : Int) (u1 : Value) (n1 : Nat) (A1 : Nat → En) (s1 : S64 t1) (s1' : S64 m1) (e1 : ∀ i, i < n1 → (A1 i).ok) (r1 : RdE w u1 n1 A1) (id : Int) (v2 : (Lit.int .i64 id).wf = true) :
    Calls Tryz.prog 3 #[snV t0 m0 u0, snV t1 m1 u1, .int .i64 id] w fun e w' => e = .returned (.bool true) ∧ Below w.heap.size w w' := by
  have E0 : Hid (∀ i, i < n0 → (A0 i).ok) := e0
  have R0 : Hid (RdE w u0 n0 A0) := r0
  obtain ⟨o0, k0, q0, hc0, hm0, _⟩ := r0
  subst q0
  have E1 : Hid (∀ i, i < n1 → (A1 i).ok) := e1
  have R1 : Hid (RdE w u1 n1 A1) := r1
  obtain ⟨o1, k1, q1, hc1, hm1, _⟩ := r1
  subst q1
  have D1 : Hid (∀ w', RdE w' (.slice o0 n0 k0) n0 A0 → RdE w' (.slice o1 n1 k1) n1 A1 → Calls Tryz.prog 10 #[snV t0 m0 (.slice o0 n0 k0), snV t1 m1 (.slice o1 n1 k1)] w' fun e w'' => ∃ u, e = .returned (.tuple #[gmV (dlG t0 m0 (preE A0 n0) t1 m1 (preE A1 n1)) u, .int .i64 (dlE t0 m0 (preE A0 n0) t1 m1 (preE A1 n1))]) ∧ OwnR w'' w'.heap.size u (dlL t0 m0 (preE A0 n0) t1 m1 (preE A1 n1)) ∧ Below w'.heap.size w' w'') := fun w' h h' => dl_diff w' t0 m0 _ n0 A0 E0.out h t1 m1 _ n1 A1 h'
  have D2 : Hid (∀ w', RdE w' (.slice o0 n0 k0) n0 A0 → RdE w' (.slice o1 n1 k1) n1 A1 → Calls Tryz.prog 11 #[snV t0 m0 (.slice o0 n0 k0), snV t1 m1 (.slice o1 n1 k1)] w' fun e w'' => ∃ u, e = .returned (.tuple #[gmV (dlG t0 m0 (preE A0 n0) t1 m1 (preE A1 n1)) u, .int .i64 (dlE t0 m0 (preE A0 n0) t1 m1 (preE A1 n1))]) ∧ OwnR w'' w'.heap.size u (dlL t0 m0 (preE A0 n0) t1 m1 (preE A1 n1)) ∧ Below w'.heap.size w' w'') := fun w' h h' => dsn_diff w' t0 m0 _ n0 A0 E0.out h t1 m1 _ n1 A1 E1.out h'
  have F1 : Hid (∀ w', RdE w' (.slice o1 n1 k1) n1 A1 → Calls Tryz.prog 12 #[snV t1 m1 (.slice o1 n1 k1)] w' fun e w'' => ∃ u, e = .returned (.tuple #[gmV (fulG t1 m1 (preE A1 n1)) u, .int .i64 (fulE t1 m1 (preE A1 n1))]) ∧ OwnR w'' w'.heap.size u (fulL t1 m1 (preE A1 n1)) ∧ Below w'.heap.size w' w'') := fun w' h => dl_full w' t1 m1 _ n1 A1 h
  have F2 : Hid (∀ w', RdE w' (.slice o1 n1 k1) n1 A1 → Calls Tryz.prog 13 #[snV t1 m1 (.slice o1 n1 k1)] w' fun e w'' => ∃ u, e = .returned (.tuple #[gmV (fulG t1 m1 (preE A1 n1)) u, .int .i64 (fulE t1 m1 (preE A1 n1))]) ∧ OwnR w'' w'.heap.size u (fulL t1 m1 (preE A1 n1)) ∧ Below w'.heap.size w' w'') := fun w' h => dsn_full w' t1 m1 _ n1 A1 h
  have X1 : Hid (∀ w', RdE w' (.slice o0 n0 k0) n0 A0 → Calls Tryz.prog 14 #[snV t0 m0 (.slice o0 n0 k0), .int .i64 id] w' fun e w'' => e = .returned (.tuple #[entV (getE (findE id (preE A0 n0))), .bool (isO (findE id (preE A0 n0)))]) ∧ Below w'.heap.size w' w'') := fun w' h => sn_find w' t0 m0 id _ n0 A0 h
  have X2 : Hid (∀ w', RdE w' (.slice o0 n0 k0) n0 A0 → Calls Tryz.prog 15 #[snV t0 m0 (.slice o0 n0 k0), .int .i64 id] w' fun e w'' => e = .returned (.tuple #[entV (getE (findE id (preE A0 n0))), .bool (isO (findE id (preE A0 n0)))]) ∧ Below w'.heap.size w' w'') := fun w' h => dsn_find w' t0 m0 id _ n0 A0 h
  have C1 : Hid (∀ w', RdE w' (.slice o0 n0 k0) n0 A0 → Calls Tryz.prog 17 #[snV t0 m0 (.slice o0 n0 k0)] w' fun e w'' => e = .returned (.int .i64 (snE t0 m0 (preE A0 n0))) ∧ Below w'.heap.size w' w'') := fun w' h => sn_check w' t0 m0 _ n0 A0 h
  have C2 : Hid (∀ w', RdE w' (.slice o0 n0 k0) n0 A0 → Calls Tryz.prog 18 #[snV t0 m0 (.slice o0 n0 k0)] w' fun e w'' => e = .returned (.int .i64 (snE t0 m0 (preE A0 n0))) ∧ Below w'.heap.size w' w'') := fun w' h => dsn_check w' t0 m0 _ n0 A0 h
  obtain ⟨gD, hg⟩ : ∃ x, dlG t0 m0 (preE A0 n0) t1 m1 (preE A1 n1) = x := ⟨_, rfl⟩
  obtain ⟨eD, hf⟩ : ∃ x, dlE t0 m0 (preE A0 n0) t1 m1 (preE A1 n1) = x := ⟨_, rfl⟩
  obtain ⟨LD, hl⟩ : ∃ x, dlL t0 m0 (preE A0 n0) t1 m1 (preE A1 n1) = x := ⟨_, rfl⟩
  rw [hg, hf, hl] at D1 D2
  clear hg hf hl
  obtain ⟨gF, hg⟩ : ∃ x, fulG t1 m1 (preE A1 n1) = x := ⟨_, rfl⟩
  obtain ⟨eF, hf⟩ : ∃ x, fulE t1 m1 (preE A1 n1) = x := ⟨_, rfl⟩
  obtain ⟨LF, hl⟩ : ∃ x, fulL t1 m1 (preE A1 n1) = x := ⟨_, rfl⟩
  rw [hg, hf, hl] at F1 F2
  clear hg hf hl
  obtain ⟨th, hth⟩ : ∃ x, isO (findE id (preE A0 n0)) = x := ⟨_, rfl⟩
  obtain ⟨en, hen⟩ : ∃ x, getE (findE id (preE A0 n0)) = x := ⟨_, rfl⟩
  rw [hth, hen] at X1 X2
  clear hth hen
  obtain ⟨y0, y1, y2, y3, y4, y5, y6, y7, y8⟩ := en
  have ey : entB ⟨y0, y1, y2, y3, y4, y5, y6, y7, y8⟩ ⟨y0, y1, y2, y3, y4, y5, y6, y7, y8⟩ = true := entB_same _
  obtain ⟨cE, hc⟩ : ∃ x, snE t0 m0 (preE A0 n0) = x := ⟨_, rfl⟩
  rw [hc] at C1 C2
  clear hc
  obtain ⟨gDa, gDb, gDc⟩ := gD
  obtain ⟨gFa, gFb, gFc⟩ := gF
  obtain ⟨lD, hlD⟩ : ∃ x, LD.length = x := ⟨_, rfl⟩
  have HLD : Hid (LD.length = lD) := hlD
  obtain ⟨lF, hlF⟩ : ∃ x, LF.length = x := ⟨_, rfl⟩
  have HLF : Hid (LF.length = lF) := hlF
  clear e0 e1 s0 s0' s1 s1' v2 hlD hlF
  go_enter Tryz.func3, Tryz.ntmps3
  go_upto_region 1 with fail
  generalize hW : (w.alloc (.cells #[.int .i64 t0, .int .i64 m0, .slice o0 n0 k0] 24)).alloc (.cells #[.int .i64 t1, .int .i64 m1, .slice o1 n1 k1] 24) = W0
  obtain ⟨a_0, b_0, bb⟩ := boxed2 hW
  obtain ⟨H, hH⟩ : ∃ H, w.heap.size = H := ⟨_, rfl⟩
  have HH : Hid (w.heap.size = H) := hH
  have R0_0 : Hid (RdE W0 (.slice o0 n0 k0) n0 A0) := R0.out.below bb
  have R1_0 : Hid (RdE W0 (.slice o1 n1 k1) n1 A1) := R1.out.below bb
  rw [hH] at a_0 b_0 bb
  rw [hH]
  have Q_0 := bb
  clear hW hH bb R0 R1
  have ca0 := a_0.cell 0 _ rfl
  have ca1 := a_0.cell 1 _ rfl
  have ca2 := a_0.cell 2 _ rfl
  have la := a_0.lt
  have cb0 := b_0.cell 0 _ rfl
  have cb1 := b_0.cell 1 _ rfl
  have cb2 := b_0.cell 2 _ rfl
  have lb := b_0.lt
  go_wp2_with fail
  generalize hW : W0.alloc (.cells #[.int .i64 t0, .int .i64 m0, .slice o0 n0 k0, .int .i64 t1, .int .i64 m1, .slice o1 n1 k1] 24) = W1
  obtain ⟨s_1, bb, -⟩ := boxed hW
  obtain ⟨bs, hb⟩ : ∃ x, W0.heap.size = x := ⟨_, rfl⟩
  rw [hb] at s_1  ⊢
  clear hW
  have a_1 := a_0.below bb a_0.lt
  have b_1 := b_0.below bb b_0.lt
  have R0_1 : Hid (RdE W1 (.slice o0 n0 k0) n0 A0) := R0_0.out.below bb
  have R1_1 : Hid (RdE W1 (.slice o1 n1 k1) n1 A1) := R1_0.out.below bb
  have Q_1 := bup Q_0 (Nat.le_of_eq HH.out.symm) bb
  clear ca0 ca1 ca2 la cb0 cb1 cb2 lb
  clear a_0 b_0 R0_0 R1_0 Q_0 bb hb
  obtain ⟨q, hq⟩ : ∃ q : Bool, q = true ↔ ∃ k, k < 2 ∧ 100 < (fun k : Nat => match k with | 0 => n0 | _ => n1) k := by
    by_cases h : ∃ k, k < 2 ∧ 100 < (fun k : Nat => match k with | 0 => n0 | _ => n1) k
    · exact ⟨true, fun _ => h, fun _ => rfl⟩
    · exact ⟨false, fun h' => (by cases h'), fun h' => absurd h' h⟩
  have HGR : Hid (Calls Tryz.prog 8 #[.slice (some ⟨bs, 0, none⟩) 2 2] W1 fun e w' => e = .returned (.bool q) ∧ Below W1.heap.size W1 w') := dl_great W1 bs 2 2 (by omega) (by omega) (fun k : Nat => match k with | 0 => t0 | _ => t1) (fun k : Nat => match k with | 0 => m0 | _ => m1) (fun k : Nat => match k with | 0 => o0 | _ => o1) (fun k : Nat => match k with | 0 => n0 | _ => n1) (fun k : Nat => match k with | 0 => k0 | _ => k1) q hq (fun k hk => by
    match k, hk with
    | 0, _ => exact ⟨s_1.cell 0 _ rfl, s_1.cell 1 _ rfl, s_1.cell 2 _ rfl⟩
    | 1, _ => exact ⟨s_1.cell 3 _ rfl, s_1.cell 4 _ rfl, s_1.cell 5 _ rfl⟩)
  clear hq
  refine (HGR.out).mono ?_; rintro e w2 ⟨rfl, bb⟩
  clear s_1
  have a_2 := a_1.below bb a_1.lt
  have b_2 := b_1.below bb b_1.lt
  have R0_2 : Hid (RdE w2 (.slice o0 n0 k0) n0 A0) := R0_1.out.below bb
  have R1_2 : Hid (RdE w2 (.slice o1 n1 k1) n1 A1) := R1_1.out.below bb
  have Q_2 := bup Q_1 (Nat.le_of_eq HH.out.symm) bb
  clear a_1 b_1 R0_1 R1_1 Q_1 bb
  clear HGR
  cases q
  · -- none is more than is looked at
    have ca0 := a_2.cell 0 _ rfl
    have ca1 := a_2.cell 1 _ rfl
    have ca2 := a_2.cell 2 _ rfl
    have la := a_2.lt
    have cb0 := b_2.cell 0 _ rfl
    have cb1 := b_2.cell 1 _ rfl
    have cb2 := b_2.cell 2 _ rfl
    have lb := b_2.lt
    go_wp2_with fail
    refine (D1.out _ R0_2.out R1_2.out).mono ?_; rintro e w3 ⟨vg, rfl, own, bb⟩
    have NG : Hid (RdR w3 vg LD.length (atR LD)) := own.atR
    obtain ⟨pg, kg, ev⟩ := own.form
    rw [HLD.out] at ev NG
    clear own
    subst ev
    have a_3 := a_2.below bb a_2.lt
    have b_3 := b_2.below bb b_2.lt
    have R0_3 : Hid (RdE w3 (.slice o0 n0 k0) n0 A0) := R0_2.out.below bb
    have R1_3 : Hid (RdE w3 (.slice o1 n1 k1) n1 A1) := R1_2.out.below bb
    have Q_3 := bup Q_2 (Nat.le_of_eq HH.out.symm) bb
    clear ca0 ca1 ca2 la cb0 cb1 cb2 lb
    clear a_2 b_2 R0_2 R1_2 Q_2 bb
    have NG_3 := NG
    clear NG D1
    go_upto_region 4 with fail
    generalize hW : w3.alloc (.cells #[.int .i64 gDa, .int .i64 gDb, .int .i64 gDc, .slice pg lD kg] 29) = W4
    obtain ⟨g_4, bb, -⟩ := boxed hW
    obtain ⟨bg, hb⟩ : ∃ x, w3.heap.size = x := ⟨_, rfl⟩
    rw [hb] at g_4  ⊢
    clear hW
    have a_4 := a_3.below bb a_3.lt
    have b_4 := b_3.below bb b_3.lt
    have R0_4 : Hid (RdE W4 (.slice o0 n0 k0) n0 A0) := R0_3.out.below bb
    have R1_4 : Hid (RdE W4 (.slice o1 n1 k1) n1 A1) := R1_3.out.below bb
    have NG_4 : Hid (RdR W4 (.slice pg lD kg) lD (atR LD)) := NG_3.out.below bb
    have Q_4 := bup Q_3 (Nat.le_of_eq HH.out.symm) bb
    clear a_3 b_3 R0_3 R1_3 NG_3 Q_3 bb hb
    have ca0 := a_4.cell 0 _ rfl
    have ca1 := a_4.cell 1 _ rfl
    have ca2 := a_4.cell 2 _ rfl
    have la := a_4.lt
    have cb0 := b_4.cell 0 _ rfl
    have cb1 := b_4.cell 1 _ rfl
    have cb2 := b_4.cell 2 _ rfl
    have lb := b_4.lt
    go_wp2_with fail
    refine (D2.out _ R0_4.out R1_4.out).mono ?_; rintro e w5 ⟨vh, rfl, own, bb⟩
    have NH : Hid (RdR w5 vh LD.length (atR LD)) := own.atR
    obtain ⟨ph, kh, ev⟩ := own.form
    rw [HLD.out] at ev NH
    clear own
    subst ev
    have a_5 := a_4.below bb a_4.lt
    have b_5 := b_4.below bb b_4.lt
    have g_5 := g_4.below bb g_4.lt
    have R0_5 : Hid (RdE w5 (.slice o0 n0 k0) n0 A0) := R0_4.out.below bb
    have R1_5 : Hid (RdE w5 (.slice o1 n1 k1) n1 A1) := R1_4.out.below bb
    have NG_5 : Hid (RdR w5 (.slice pg lD kg) lD (atR LD)) := NG_4.out.below bb
    have Q_5 := bup Q_4 (Nat.le_of_eq HH.out.symm) bb
    clear ca0 ca1 ca2 la cb0 cb1 cb2 lb
    clear a_4 b_4 g_4 R0_4 R1_4 NG_4 Q_4 bb
    have NH_5 := NH
    clear NH D2
    go_upto_region 5 with fail
    generalize hW : w5.alloc (.cells #[.int .i64 gDa, .int .i64 gDb, .int .i64 gDc, .slice ph lD kh] 29) = W6
    obtain ⟨h_6, bb, -⟩ := boxed hW
    obtain ⟨bh, hb⟩ : ∃ x, w5.heap.size = x := ⟨_, rfl⟩
    rw [hb] at h_6  ⊢
    clear hW
    have a_6 := a_5.below bb a_5.lt
    have b_6 := b_5.below bb b_5.lt
    have g_6 := g_5.below bb g_5.lt
    have R0_6 : Hid (RdE W6 (.slice o0 n0 k0) n0 A0) := R0_5.out.below bb
    have R1_6 : Hid (RdE W6 (.slice o1 n1 k1) n1 A1) := R1_5.out.below bb
    have NG_6 : Hid (RdR W6 (.slice pg lD kg) lD (atR LD)) := NG_5.out.below bb
    have NH_6 : Hid (RdR W6 (.slice ph lD kh) lD (atR LD)) := NH_5.out.below bb
    have Q_6 := bup Q_5 (Nat.le_of_eq HH.out.symm) bb
    clear a_5 b_5 g_5 R0_5 R1_5 NG_5 NH_5 Q_5 bb hb
    have cb0 := b_6.cell 0 _ rfl
    have cb1 := b_6.cell 1 _ rfl
    have cb2 := b_6.cell 2 _ rfl
    have lb := b_6.lt
    go_wp2_with fail
    refine (F1.out _ R1_6.out).mono ?_; rintro e w7 ⟨vi, rfl, own, bb⟩
    have NI : Hid (RdR w7 vi LF.length (atR LF)) := own.atR
    obtain ⟨pi, ki, ev⟩ := own.form
    rw [HLF.out] at ev NI
    clear own
    subst ev
    have a_7 := a_6.below bb a_6.lt
    have b_7 := b_6.below bb b_6.lt
    have g_7 := g_6.below bb g_6.lt
    have h_7 := h_6.below bb h_6.lt
    have R0_7 : Hid (RdE w7 (.slice o0 n0 k0) n0 A0) := R0_6.out.below bb
    have R1_7 : Hid (RdE w7 (.slice o1 n1 k1) n1 A1) := R1_6.out.below bb
    have NG_7 : Hid (RdR w7 (.slice pg lD kg) lD (atR LD)) := NG_6.out.below bb
    have NH_7 : Hid (RdR w7 (.slice ph lD kh) lD (atR LD)) := NH_6.out.below bb
    have Q_7 := bup Q_6 (Nat.le_of_eq HH.out.symm) bb
    clear cb0 cb1 cb2 lb
    clear a_6 b_6 g_6 h_6 R0_6 R1_6 NG_6 NH_6 Q_6 bb
    have NI_7 := NI
    clear NI F1
    go_upto_region 6 with fail
    generalize hW : w7.alloc (.cells #[.int .i64 gFa, .int .i64 gFb, .int .i64 gFc, .slice pi lF ki] 29) = W8
    obtain ⟨i_8, bb, -⟩ := boxed hW
    obtain ⟨bi, hb⟩ : ∃ x, w7.heap.size = x := ⟨_, rfl⟩
    rw [hb] at i_8  ⊢
    clear hW
    have a_8 := a_7.below bb a_7.lt
    have b_8 := b_7.below bb b_7.lt
    have g_8 := g_7.below bb g_7.lt
    have h_8 := h_7.below bb h_7.lt
    have R0_8 : Hid (RdE W8 (.slice o0 n0 k0) n0 A0) := R0_7.out.below bb
    have R1_8 : Hid (RdE W8 (.slice o1 n1 k1) n1 A1) := R1_7.out.below bb
    have NG_8 : Hid (RdR W8 (.slice pg lD kg) lD (atR LD)) := NG_7.out.below bb
    have NH_8 : Hid (RdR W8 (.slice ph lD kh) lD (atR LD)) := NH_7.out.below bb
    have NI_8 : Hid (RdR W8 (.slice pi lF ki) lF (atR LF)) := NI_7.out.below bb
    have Q_8 := bup Q_7 (Nat.le_of_eq HH.out.symm) bb
    clear a_7 b_7 g_7 h_7 R0_7 R1_7 NG_7 NH_7 NI_7 Q_7 bb hb
    have cb0 := b_8.cell 0 _ rfl
    have cb1 := b_8.cell 1 _ rfl
    have cb2 := b_8.cell 2 _ rfl
    have lb := b_8.lt
    go_wp2_with fail
    refine (F2.out _ R1_8.out).mono ?_; rintro e w9 ⟨vj, rfl, own, bb⟩
    have NJ : Hid (RdR w9 vj LF.length (atR LF)) := own.atR
    obtain ⟨pj, kj, ev⟩ := own.form
    rw [HLF.out] at ev NJ
    clear own
    subst ev
    have a_9 := a_8.below bb a_8.lt
    have b_9 := b_8.below bb b_8.lt
    have g_9 := g_8.below bb g_8.lt
    have h_9 := h_8.below bb h_8.lt
    have i_9 := i_8.below bb i_8.lt
    have R0_9 : Hid (RdE w9 (.slice o0 n0 k0) n0 A0) := R0_8.out.below bb
    have R1_9 : Hid (RdE w9 (.slice o1 n1 k1) n1 A1) := R1_8.out.below bb
    have NG_9 : Hid (RdR w9 (.slice pg lD kg) lD (atR LD)) := NG_8.out.below bb
    have NH_9 : Hid (RdR w9 (.slice ph lD kh) lD (atR LD)) := NH_8.out.below bb
    have NI_9 : Hid (RdR w9 (.slice pi lF ki) lF (atR LF)) := NI_8.out.below bb
    have Q_9 := bup Q_8 (Nat.le_of_eq HH.out.symm) bb
    clear cb0 cb1 cb2 lb
    clear a_8 b_8 g_8 h_8 i_8 R0_8 R1_8 NG_8 NH_8 NI_8 Q_8 bb
    have NJ_9 := NJ
    clear NJ F2
    go_upto_region 7 with fail
    generalize hW : w9.alloc (.cells #[.int .i64 gFa, .int .i64 gFb, .int .i64 gFc, .slice pj lF kj] 29) = W10
    obtain ⟨j_10, bb, -⟩ := boxed hW
    obtain ⟨bj, hb⟩ : ∃ x, w9.heap.size = x := ⟨_, rfl⟩
    rw [hb] at j_10  ⊢
    clear hW
    have a_10 := a_9.below bb a_9.lt
    have b_10 := b_9.below bb b_9.lt
    have g_10 := g_9.below bb g_9.lt
    have h_10 := h_9.below bb h_9.lt
    have i_10 := i_9.below bb i_9.lt
    have R0_10 : Hid (RdE W10 (.slice o0 n0 k0) n0 A0) := R0_9.out.below bb
    have R1_10 : Hid (RdE W10 (.slice o1 n1 k1) n1 A1) := R1_9.out.below bb
    have NG_10 : Hid (RdR W10 (.slice pg lD kg) lD (atR LD)) := NG_9.out.below bb
    have NH_10 : Hid (RdR W10 (.slice ph lD kh) lD (atR LD)) := NH_9.out.below bb
    have NI_10 : Hid (RdR W10 (.slice pi lF ki) lF (atR LF)) := NI_9.out.below bb
    have NJ_10 : Hid (RdR W10 (.slice pj lF kj) lF (atR LF)) := NJ_9.out.below bb
    have Q_10 := bup Q_9 (Nat.le_of_eq HH.out.symm) bb
    clear a_9 b_9 g_9 h_9 i_9 R0_9 R1_9 NG_9 NH_9 NI_9 NJ_9 Q_9 bb hb
    clear b_10
    clear R1_10
    have ca0 := a_10.cell 0 _ rfl
    have ca1 := a_10.cell 1 _ rfl
    have ca2 := a_10.cell 2 _ rfl
    have la := a_10.lt
    go_wp2_with fail
    refine (X1.out _ R0_10.out).mono ?_; rintro e w11 ⟨rfl, bb⟩
    have a_11 := a_10.below bb a_10.lt
    have g_11 := g_10.below bb g_10.lt
    have h_11 := h_10.below bb h_10.lt
    have i_11 := i_10.below bb i_10.lt
    have j_11 := j_10.below bb j_10.lt
    have R0_11 : Hid (RdE w11 (.slice o0 n0 k0) n0 A0) := R0_10.out.below bb
    have NG_11 : Hid (RdR w11 (.slice pg lD kg) lD (atR LD)) := NG_10.out.below bb
    have NH_11 : Hid (RdR w11 (.slice ph lD kh) lD (atR LD)) := NH_10.out.below bb
    have NI_11 : Hid (RdR w11 (.slice pi lF ki) lF (atR LF)) := NI_10.out.below bb
    have NJ_11 : Hid (RdR w11 (.slice pj lF kj) lF (atR LF)) := NJ_10.out.below bb
    have Q_11 := bup Q_10 (Nat.le_of_eq HH.out.symm) bb
    clear ca0 ca1 ca2 la
    clear a_10 g_10 h_10 i_10 j_10 R0_10 NG_10 NH_10 NI_10 NJ_10 Q_10 bb
    clear X1
    go_upto_region 8 with fail
    generalize hW : w11.alloc (.cells #[.int .i64 y0, .int .i64 y1, .int .i64 y2, .int .i64 y3, .int .i64 y4, .int .i64 y5, .int .i64 y6, .int .u16 y7, .int .u8 y8] 40) = W12
    obtain ⟨xe_12, bb, -⟩ := boxed hW
    obtain ⟨bxe, hb⟩ : ∃ x, w11.heap.size = x := ⟨_, rfl⟩
    rw [hb] at xe_12  ⊢
    clear hW
    have a_12 := a_11.below bb a_11.lt
    have g_12 := g_11.below bb g_11.lt
    have h_12 := h_11.below bb h_11.lt
    have i_12 := i_11.below bb i_11.lt
    have j_12 := j_11.below bb j_11.lt
    have R0_12 : Hid (RdE W12 (.slice o0 n0 k0) n0 A0) := R0_11.out.below bb
    have NG_12 : Hid (RdR W12 (.slice pg lD kg) lD (atR LD)) := NG_11.out.below bb
    have NH_12 : Hid (RdR W12 (.slice ph lD kh) lD (atR LD)) := NH_11.out.below bb
    have NI_12 : Hid (RdR W12 (.slice pi lF ki) lF (atR LF)) := NI_11.out.below bb
    have NJ_12 : Hid (RdR W12 (.slice pj lF kj) lF (atR LF)) := NJ_11.out.below bb
    have Q_12 := bup Q_11 (Nat.le_of_eq HH.out.symm) bb
    clear a_11 g_11 h_11 i_11 j_11 R0_11 NG_11 NH_11 NI_11 NJ_11 Q_11 bb hb
    have ca0 := a_12.cell 0 _ rfl
    have ca1 := a_12.cell 1 _ rfl
    have ca2 := a_12.cell 2 _ rfl
    have la := a_12.lt
    go_wp2_with fail
    refine (X2.out _ R0_12.out).mono ?_; rintro e w13 ⟨rfl, bb⟩
    have a_13 := a_12.below bb a_12.lt
    have g_13 := g_12.below bb g_12.lt
    have h_13 := h_12.below bb h_12.lt
    have i_13 := i_12.below bb i_12.lt
    have j_13 := j_12.below bb j_12.lt
    have xe_13 := xe_12.below bb xe_12.lt
    have R0_13 : Hid (RdE w13 (.slice o0 n0 k0) n0 A0) := R0_12.out.below bb
    have NG_13 : Hid (RdR w13 (.slice pg lD kg) lD (atR LD)) := NG_12.out.below bb
    have NH_13 : Hid (RdR w13 (.slice ph lD kh) lD (atR LD)) := NH_12.out.below bb
    have NI_13 : Hid (RdR w13 (.slice pi lF ki) lF (atR LF)) := NI_12.out.below bb
    have NJ_13 : Hid (RdR w13 (.slice pj lF kj) lF (atR LF)) := NJ_12.out.below bb
    have Q_13 := bup Q_12 (Nat.le_of_eq HH.out.symm) bb
    clear ca0 ca1 ca2 la
    clear a_12 g_12 h_12 i_12 j_12 xe_12 R0_12 NG_12 NH_12 NI_12 NJ_12 Q_12 bb
    clear X2
    go_upto_region 9 with fail
    generalize hW : w13.alloc (.cells #[.int .i64 y0, .int .i64 y1, .int .i64 y2, .int .i64 y3, .int .i64 y4, .int .i64 y5, .int .i64 y6, .int .u16 y7, .int .u8 y8] 40) = W14
    obtain ⟨ye_14, bb, -⟩ := boxed hW
    obtain ⟨bye, hb⟩ : ∃ x, w13.heap.size = x := ⟨_, rfl⟩
    rw [hb] at ye_14  ⊢
    clear hW
    have a_14 := a_13.below bb a_13.lt
    have g_14 := g_13.below bb g_13.lt
    have h_14 := h_13.below bb h_13.lt
    have i_14 := i_13.below bb i_13.lt
    have j_14 := j_13.below bb j_13.lt
    have xe_14 := xe_13.below bb xe_13.lt
    have R0_14 : Hid (RdE W14 (.slice o0 n0 k0) n0 A0) := R0_13.out.below bb
    have NG_14 : Hid (RdR W14 (.slice pg lD kg) lD (atR LD)) := NG_13.out.below bb
    have NH_14 : Hid (RdR W14 (.slice ph lD kh) lD (atR LD)) := NH_13.out.below bb
    have NI_14 : Hid (RdR W14 (.slice pi lF ki) lF (atR LF)) := NI_13.out.below bb
    have NJ_14 : Hid (RdR W14 (.slice pj lF kj) lF (atR LF)) := NJ_13.out.below bb
    have Q_14 := bup Q_13 (Nat.le_of_eq HH.out.symm) bb
    clear a_13 g_13 h_13 i_13 j_13 xe_13 R0_13 NG_13 NH_13 NI_13 NJ_13 Q_13 bb hb
    have hS0 : W14.drew.cell? ⟨H, 0, none⟩ = some (.int .i64 t0) ∧ W14.drew.cell? ⟨H, 1, none⟩ = some (.int .i64 m0) ∧ W14.drew.cell? ⟨H, 2, none⟩ = some (.slice o0 n0 k0) ∧ W14.drew.cell? ⟨bg, 0, none⟩ = some (.int .i64 gDa) ∧ W14.drew.cell? ⟨bg, 1, none⟩ = some (.int .i64 gDb) ∧ W14.drew.cell? ⟨bg, 2, none⟩ = some (.int .i64 gDc) ∧ W14.drew.cell? ⟨bg, 3, none⟩ = some (.slice pg lD kg) ∧ W14.drew.cell? ⟨bh, 0, none⟩ = some (.int .i64 gDa) ∧ W14.drew.cell? ⟨bh, 1, none⟩ = some (.int .i64 gDb) ∧ W14.drew.cell? ⟨bh, 2, none⟩ = some (.int .i64 gDc) ∧ W14.drew.cell? ⟨bh, 3, none⟩ = some (.slice ph lD kh) ∧ W14.drew.cell? ⟨bi, 0, none⟩ = some (.int .i64 gFa) ∧ W14.drew.cell? ⟨bi, 1, none⟩ = some (.int .i64 gFb) ∧ W14.drew.cell? ⟨bi, 2, none⟩ = some (.int .i64 gFc) ∧ W14.drew.cell? ⟨bi, 3, none⟩ = some (.slice pi lF ki) ∧ W14.drew.cell? ⟨bj, 0, none⟩ = some (.int .i64 gFa) ∧ W14.drew.cell? ⟨bj, 1, none⟩ = some (.int .i64 gFb) ∧ W14.drew.cell? ⟨bj, 2, none⟩ = some (.int .i64 gFc) ∧ W14.drew.cell? ⟨bj, 3, none⟩ = some (.slice pj lF kj) ∧ W14.drew.cell? ⟨bxe, 0, none⟩ = some (.int .i64 y0) ∧ W14.drew.cell? ⟨bxe, 1, none⟩ = some (.int .i64 y1) ∧ W14.drew.cell? ⟨bxe, 2, none⟩ = some (.int .i64 y2) ∧ W14.drew.cell? ⟨bxe, 3, none⟩ = some (.int .i64 y3) ∧ W14.drew.cell? ⟨bxe, 4, none⟩ = some (.int .i64 y4) ∧ W14.drew.cell? ⟨bxe, 5, none⟩ = some (.int .i64 y5) ∧ W14.drew.cell? ⟨bxe, 6, none⟩ = some (.int .i64 y6) ∧ W14.drew.cell? ⟨bxe, 7, none⟩ = some (.int .u16 y7) ∧ W14.drew.cell? ⟨bxe, 8, none⟩ = some (.int .u8 y8) ∧ W14.drew.cell? ⟨bye, 0, none⟩ = some (.int .i64 y0) ∧ W14.drew.cell? ⟨bye, 1, none⟩ = some (.int .i64 y1) ∧ W14.drew.cell? ⟨bye, 2, none⟩ = some (.int .i64 y2) ∧ W14.drew.cell? ⟨bye, 3, none⟩ = some (.int .i64 y3) ∧ W14.drew.cell? ⟨bye, 4, none⟩ = some (.int .i64 y4) ∧ W14.drew.cell? ⟨bye, 5, none⟩ = some (.int .i64 y5) ∧ W14.drew.cell? ⟨bye, 6, none⟩ = some (.int .i64 y6) ∧ W14.drew.cell? ⟨bye, 7, none⟩ = some (.int .u16 y7) ∧ W14.drew.cell? ⟨bye, 8, none⟩ = some (.int .u8 y8) := ⟨a_14.drew.cell 0 _ rfl, a_14.drew.cell 1 _ rfl, a_14.drew.cell 2 _ rfl, g_14.drew.cell 0 _ rfl, g_14.drew.cell 1 _ rfl, g_14.drew.cell 2 _ rfl, g_14.drew.cell 3 _ rfl, h_14.drew.cell 0 _ rfl, h_14.drew.cell 1 _ rfl, h_14.drew.cell 2 _ rfl, h_14.drew.cell 3 _ rfl, i_14.drew.cell 0 _ rfl, i_14.drew.cell 1 _ rfl, i_14.drew.cell 2 _ rfl, i_14.drew.cell 3 _ rfl, j_14.drew.cell 0 _ rfl, j_14.drew.cell 1 _ rfl, j_14.drew.cell 2 _ rfl, j_14.drew.cell 3 _ rfl, xe_14.drew.cell 0 _ rfl, xe_14.drew.cell 1 _ rfl, xe_14.drew.cell 2 _ rfl, xe_14.drew.cell 3 _ rfl, xe_14.drew.cell 4 _ rfl, xe_14.drew.cell 5 _ rfl, xe_14.drew.cell 6 _ rfl, xe_14.drew.cell 7 _ rfl, xe_14.drew.cell 8 _ rfl, ye_14.drew.cell 0 _ rfl, ye_14.drew.cell 1 _ rfl, ye_14.drew.cell 2 _ rfl, ye_14.drew.cell 3 _ rfl, ye_14.drew.cell 4 _ rfl, ye_14.drew.cell 5 _ rfl, ye_14.drew.cell 6 _ rfl, ye_14.drew.cell 7 _ rfl, ye_14.drew.cell 8 _ rfl⟩
    go_region_held3 (fun w' => w'.cell? ⟨H, 0, none⟩ = some (.int .i64 t0) ∧ w'.cell? ⟨H, 1, none⟩ = some (.int .i64 m0) ∧ w'.cell? ⟨H, 2, none⟩ = some (.slice o0 n0 k0) ∧ w'.cell? ⟨bg, 0, none⟩ = some (.int .i64 gDa) ∧ w'.cell? ⟨bg, 1, none⟩ = some (.int .i64 gDb) ∧ w'.cell? ⟨bg, 2, none⟩ = some (.int .i64 gDc) ∧ w'.cell? ⟨bg, 3, none⟩ = some (.slice pg lD kg) ∧ w'.cell? ⟨bh, 0, none⟩ = some (.int .i64 gDa) ∧ w'.cell? ⟨bh, 1, none⟩ = some (.int .i64 gDb) ∧ w'.cell? ⟨bh, 2, none⟩ = some (.int .i64 gDc) ∧ w'.cell? ⟨bh, 3, none⟩ = some (.slice ph lD kh) ∧ w'.cell? ⟨bi, 0, none⟩ = some (.int .i64 gFa) ∧ w'.cell? ⟨bi, 1, none⟩ = some (.int .i64 gFb) ∧ w'.cell? ⟨bi, 2, none⟩ = some (.int .i64 gFc) ∧ w'.cell? ⟨bi, 3, none⟩ = some (.slice pi lF ki) ∧ w'.cell? ⟨bj, 0, none⟩ = some (.int .i64 gFa) ∧ w'.cell? ⟨bj, 1, none⟩ = some (.int .i64 gFb) ∧ w'.cell? ⟨bj, 2, none⟩ = some (.int .i64 gFc) ∧ w'.cell? ⟨bj, 3, none⟩ = some (.slice pj lF kj) ∧ w'.cell? ⟨bxe, 0, none⟩ = some (.int .i64 y0) ∧ w'.cell? ⟨bxe, 1, none⟩ = some (.int .i64 y1) ∧ w'.cell? ⟨bxe, 2, none⟩ = some (.int .i64 y2) ∧ w'.cell? ⟨bxe, 3, none⟩ = some (.int .i64 y3) ∧ w'.cell? ⟨bxe, 4, none⟩ = some (.int .i64 y4) ∧ w'.cell? ⟨bxe, 5, none⟩ = some (.int .i64 y5) ∧ w'.cell? ⟨bxe, 6, none⟩ = some (.int .i64 y6) ∧ w'.cell? ⟨bxe, 7, none⟩ = some (.int .u16 y7) ∧ w'.cell? ⟨bxe, 8, none⟩ = some (.int .u8 y8) ∧ w'.cell? ⟨bye, 0, none⟩ = some (.int .i64 y0) ∧ w'.cell? ⟨bye, 1, none⟩ = some (.int .i64 y1) ∧ w'.cell? ⟨bye, 2, none⟩ = some (.int .i64 y2) ∧ w'.cell? ⟨bye, 3, none⟩ = some (.int .i64 y3) ∧ w'.cell? ⟨bye, 4, none⟩ = some (.int .i64 y4) ∧ w'.cell? ⟨bye, 5, none⟩ = some (.int .i64 y5) ∧ w'.cell? ⟨bye, 6, none⟩ = some (.int .i64 y6) ∧ w'.cell? ⟨bye, 7, none⟩ = some (.int .u16 y7) ∧ w'.cell? ⟨bye, 8, none⟩ = some (.int .u8 y8)) (first | with_reducible exact hS0 | with_reducible exact hS1 | with_reducible exact hS2 | with_reducible exact hS3 | with_reducible exact hS4 | with_reducible exact hS5 | go_keep) (first | (go_at_call 9; (with_reducible refine (dl_alive _).mono ?_); rintro e wz0 ⟨rfl, bz0⟩; have a_15 := Blk.below a_14.drew bz0 a_14.drew.lt; have g_15 := Blk.below g_14.drew bz0 g_14.drew.lt; have h_15 := Blk.below h_14.drew bz0 h_14.drew.lt; have i_15 := Blk.below i_14.drew bz0 i_14.drew.lt; have j_15 := Blk.below j_14.drew bz0 j_14.drew.lt; have xe_15 := Blk.below xe_14.drew bz0 xe_14.drew.lt; have ye_15 := Blk.below ye_14.drew bz0 ye_14.drew.lt; have R0_15 : Hid (RdE wz0 (.slice o0 n0 k0) n0 A0) := R0_14.out.below (w := W14.drew) bz0; have NG_15 : Hid (RdR wz0 (.slice pg lD kg) lD (atR LD)) := NG_14.out.below (w := W14.drew) bz0; have NH_15 : Hid (RdR wz0 (.slice ph lD kh) lD (atR LD)) := NH_14.out.below (w := W14.drew) bz0; have NI_15 : Hid (RdR wz0 (.slice pi lF ki) lF (atR LF)) := NI_14.out.below (w := W14.drew) bz0; have NJ_15 : Hid (RdR wz0 (.slice pj lF kj) lF (atR LF)) := NJ_14.out.below (w := W14.drew) bz0; have Q_15 := bup Q_14.drew (Nat.le_of_eq HH.out.symm) bz0; have hS1 : wz0.cell? ⟨H, 0, none⟩ = some (.int .i64 t0) ∧ wz0.cell? ⟨H, 1, none⟩ = some (.int .i64 m0) ∧ wz0.cell? ⟨H, 2, none⟩ = some (.slice o0 n0 k0) ∧ wz0.cell? ⟨bg, 0, none⟩ = some (.int .i64 gDa) ∧ wz0.cell? ⟨bg, 1, none⟩ = some (.int .i64 gDb) ∧ wz0.cell? ⟨bg, 2, none⟩ = some (.int .i64 gDc) ∧ wz0.cell? ⟨bg, 3, none⟩ = some (.slice pg lD kg) ∧ wz0.cell? ⟨bh, 0, none⟩ = some (.int .i64 gDa) ∧ wz0.cell? ⟨bh, 1, none⟩ = some (.int .i64 gDb) ∧ wz0.cell? ⟨bh, 2, none⟩ = some (.int .i64 gDc) ∧ wz0.cell? ⟨bh, 3, none⟩ = some (.slice ph lD kh) ∧ wz0.cell? ⟨bi, 0, none⟩ = some (.int .i64 gFa) ∧ wz0.cell? ⟨bi, 1, none⟩ = some (.int .i64 gFb) ∧ wz0.cell? ⟨bi, 2, none⟩ = some (.int .i64 gFc) ∧ wz0.cell? ⟨bi, 3, none⟩ = some (.slice pi lF ki) ∧ wz0.cell? ⟨bj, 0, none⟩ = some (.int .i64 gFa) ∧ wz0.cell? ⟨bj, 1, none⟩ = some (.int .i64 gFb) ∧ wz0.cell? ⟨bj, 2, none⟩ = some (.int .i64 gFc) ∧ wz0.cell? ⟨bj, 3, none⟩ = some (.slice pj lF kj) ∧ wz0.cell? ⟨bxe, 0, none⟩ = some (.int .i64 y0) ∧ wz0.cell? ⟨bxe, 1, none⟩ = some (.int .i64 y1) ∧ wz0.cell? ⟨bxe, 2, none⟩ = some (.int .i64 y2) ∧ wz0.cell? ⟨bxe, 3, none⟩ = some (.int .i64 y3) ∧ wz0.cell? ⟨bxe, 4, none⟩ = some (.int .i64 y4) ∧ wz0.cell? ⟨bxe, 5, none⟩ = some (.int .i64 y5) ∧ wz0.cell? ⟨bxe, 6, none⟩ = some (.int .i64 y6) ∧ wz0.cell? ⟨bxe, 7, none⟩ = some (.int .u16 y7) ∧ wz0.cell? ⟨bxe, 8, none⟩ = some (.int .u8 y8) ∧ wz0.cell? ⟨bye, 0, none⟩ = some (.int .i64 y0) ∧ wz0.cell? ⟨bye, 1, none⟩ = some (.int .i64 y1) ∧ wz0.cell? ⟨bye, 2, none⟩ = some (.int .i64 y2) ∧ wz0.cell? ⟨bye, 3, none⟩ = some (.int .i64 y3) ∧ wz0.cell? ⟨bye, 4, none⟩ = some (.int .i64 y4) ∧ wz0.cell? ⟨bye, 5, none⟩ = some (.int .i64 y5) ∧ wz0.cell? ⟨bye, 6, none⟩ = some (.int .i64 y6) ∧ wz0.cell? ⟨bye, 7, none⟩ = some (.int .u16 y7) ∧ wz0.cell? ⟨bye, 8, none⟩ = some (.int .u8 y8) := ⟨a_15.cell 0 _ rfl, a_15.cell 1 _ rfl, a_15.cell 2 _ rfl, g_15.cell 0 _ rfl, g_15.cell 1 _ rfl, g_15.cell 2 _ rfl, g_15.cell 3 _ rfl, h_15.cell 0 _ rfl, h_15.cell 1 _ rfl, h_15.cell 2 _ rfl, h_15.cell 3 _ rfl, i_15.cell 0 _ rfl, i_15.cell 1 _ rfl, i_15.cell 2 _ rfl, i_15.cell 3 _ rfl, j_15.cell 0 _ rfl, j_15.cell 1 _ rfl, j_15.cell 2 _ rfl, j_15.cell 3 _ rfl, xe_15.cell 0 _ rfl, xe_15.cell 1 _ rfl, xe_15.cell 2 _ rfl, xe_15.cell 3 _ rfl, xe_15.cell 4 _ rfl, xe_15.cell 5 _ rfl, xe_15.cell 6 _ rfl, xe_15.cell 7 _ rfl, xe_15.cell 8 _ rfl, ye_15.cell 0 _ rfl, ye_15.cell 1 _ rfl, ye_15.cell 2 _ rfl, ye_15.cell 3 _ rfl, ye_15.cell 4 _ rfl, ye_15.cell 5 _ rfl, ye_15.cell 6 _ rfl, ye_15.cell 7 _ rfl, ye_15.cell 8 _ rfl⟩) | (go_at_call 16; (with_reducible refine (dg_same _ ⟨gDa, gDb, gDc⟩ _ _ lD (atR LD) NG_15.out NH_15.out).mono ?_); rintro e wz1 ⟨rfl, bz1⟩; have a_16 := Blk.below a_15 bz1 a_15.lt; have g_16 := Blk.below g_15 bz1 g_15.lt; have h_16 := Blk.below h_15 bz1 h_15.lt; have i_16 := Blk.below i_15 bz1 i_15.lt; have j_16 := Blk.below j_15 bz1 j_15.lt; have xe_16 := Blk.below xe_15 bz1 xe_15.lt; have ye_16 := Blk.below ye_15 bz1 ye_15.lt; have R0_16 : Hid (RdE wz1 (.slice o0 n0 k0) n0 A0) := R0_15.out.below (w := wz0) bz1; have NG_16 : Hid (RdR wz1 (.slice pg lD kg) lD (atR LD)) := NG_15.out.below (w := wz0) bz1; have NH_16 : Hid (RdR wz1 (.slice ph lD kh) lD (atR LD)) := NH_15.out.below (w := wz0) bz1; have NI_16 : Hid (RdR wz1 (.slice pi lF ki) lF (atR LF)) := NI_15.out.below (w := wz0) bz1; have NJ_16 : Hid (RdR wz1 (.slice pj lF kj) lF (atR LF)) := NJ_15.out.below (w := wz0) bz1; have Q_16 := bup Q_15 (Nat.le_of_eq HH.out.symm) bz1; have hS2 : wz1.cell? ⟨H, 0, none⟩ = some (.int .i64 t0) ∧ wz1.cell? ⟨H, 1, none⟩ = some (.int .i64 m0) ∧ wz1.cell? ⟨H, 2, none⟩ = some (.slice o0 n0 k0) ∧ wz1.cell? ⟨bg, 0, none⟩ = some (.int .i64 gDa) ∧ wz1.cell? ⟨bg, 1, none⟩ = some (.int .i64 gDb) ∧ wz1.cell? ⟨bg, 2, none⟩ = some (.int .i64 gDc) ∧ wz1.cell? ⟨bg, 3, none⟩ = some (.slice pg lD kg) ∧ wz1.cell? ⟨bh, 0, none⟩ = some (.int .i64 gDa) ∧ wz1.cell? ⟨bh, 1, none⟩ = some (.int .i64 gDb) ∧ wz1.cell? ⟨bh, 2, none⟩ = some (.int .i64 gDc) ∧ wz1.cell? ⟨bh, 3, none⟩ = some (.slice ph lD kh) ∧ wz1.cell? ⟨bi, 0, none⟩ = some (.int .i64 gFa) ∧ wz1.cell? ⟨bi, 1, none⟩ = some (.int .i64 gFb) ∧ wz1.cell? ⟨bi, 2, none⟩ = some (.int .i64 gFc) ∧ wz1.cell? ⟨bi, 3, none⟩ = some (.slice pi lF ki) ∧ wz1.cell? ⟨bj, 0, none⟩ = some (.int .i64 gFa) ∧ wz1.cell? ⟨bj, 1, none⟩ = some (.int .i64 gFb) ∧ wz1.cell? ⟨bj, 2, none⟩ = some (.int .i64 gFc) ∧ wz1.cell? ⟨bj, 3, none⟩ = some (.slice pj lF kj) ∧ wz1.cell? ⟨bxe, 0, none⟩ = some (.int .i64 y0) ∧ wz1.cell? ⟨bxe, 1, none⟩ = some (.int .i64 y1) ∧ wz1.cell? ⟨bxe, 2, none⟩ = some (.int .i64 y2) ∧ wz1.cell? ⟨bxe, 3, none⟩ = some (.int .i64 y3) ∧ wz1.cell? ⟨bxe, 4, none⟩ = some (.int .i64 y4) ∧ wz1.cell? ⟨bxe, 5, none⟩ = some (.int .i64 y5) ∧ wz1.cell? ⟨bxe, 6, none⟩ = some (.int .i64 y6) ∧ wz1.cell? ⟨bxe, 7, none⟩ = some (.int .u16 y7) ∧ wz1.cell? ⟨bxe, 8, none⟩ = some (.int .u8 y8) ∧ wz1.cell? ⟨bye, 0, none⟩ = some (.int .i64 y0) ∧ wz1.cell? ⟨bye, 1, none⟩ = some (.int .i64 y1) ∧ wz1.cell? ⟨bye, 2, none⟩ = some (.int .i64 y2) ∧ wz1.cell? ⟨bye, 3, none⟩ = some (.int .i64 y3) ∧ wz1.cell? ⟨bye, 4, none⟩ = some (.int .i64 y4) ∧ wz1.cell? ⟨bye, 5, none⟩ = some (.int .i64 y5) ∧ wz1.cell? ⟨bye, 6, none⟩ = some (.int .i64 y6) ∧ wz1.cell? ⟨bye, 7, none⟩ = some (.int .u16 y7) ∧ wz1.cell? ⟨bye, 8, none⟩ = some (.int .u8 y8) := ⟨a_16.cell 0 _ rfl, a_16.cell 1 _ rfl, a_16.cell 2 _ rfl, g_16.cell 0 _ rfl, g_16.cell 1 _ rfl, g_16.cell 2 _ rfl, g_16.cell 3 _ rfl, h_16.cell 0 _ rfl, h_16.cell 1 _ rfl, h_16.cell 2 _ rfl, h_16.cell 3 _ rfl, i_16.cell 0 _ rfl, i_16.cell 1 _ rfl, i_16.cell 2 _ rfl, i_16.cell 3 _ rfl, j_16.cell 0 _ rfl, j_16.cell 1 _ rfl, j_16.cell 2 _ rfl, j_16.cell 3 _ rfl, xe_16.cell 0 _ rfl, xe_16.cell 1 _ rfl, xe_16.cell 2 _ rfl, xe_16.cell 3 _ rfl, xe_16.cell 4 _ rfl, xe_16.cell 5 _ rfl, xe_16.cell 6 _ rfl, xe_16.cell 7 _ rfl, xe_16.cell 8 _ rfl, ye_16.cell 0 _ rfl, ye_16.cell 1 _ rfl, ye_16.cell 2 _ rfl, ye_16.cell 3 _ rfl, ye_16.cell 4 _ rfl, ye_16.cell 5 _ rfl, ye_16.cell 6 _ rfl, ye_16.cell 7 _ rfl, ye_16.cell 8 _ rfl⟩) | (go_at_call 16; (with_reducible refine (dg_same _ ⟨gFa, gFb, gFc⟩ _ _ lF (atR LF) NI_16.out NJ_16.out).mono ?_); rintro e wz2 ⟨rfl, bz2⟩; have a_17 := Blk.below a_16 bz2 a_16.lt; have g_17 := Blk.below g_16 bz2 g_16.lt; have h_17 := Blk.below h_16 bz2 h_16.lt; have i_17 := Blk.below i_16 bz2 i_16.lt; have j_17 := Blk.below j_16 bz2 j_16.lt; have xe_17 := Blk.below xe_16 bz2 xe_16.lt; have ye_17 := Blk.below ye_16 bz2 ye_16.lt; have R0_17 : Hid (RdE wz2 (.slice o0 n0 k0) n0 A0) := R0_16.out.below (w := wz1) bz2; have NG_17 : Hid (RdR wz2 (.slice pg lD kg) lD (atR LD)) := NG_16.out.below (w := wz1) bz2; have NH_17 : Hid (RdR wz2 (.slice ph lD kh) lD (atR LD)) := NH_16.out.below (w := wz1) bz2; have NI_17 : Hid (RdR wz2 (.slice pi lF ki) lF (atR LF)) := NI_16.out.below (w := wz1) bz2; have NJ_17 : Hid (RdR wz2 (.slice pj lF kj) lF (atR LF)) := NJ_16.out.below (w := wz1) bz2; have Q_17 := bup Q_16 (Nat.le_of_eq HH.out.symm) bz2; have hS3 : wz2.cell? ⟨H, 0, none⟩ = some (.int .i64 t0) ∧ wz2.cell? ⟨H, 1, none⟩ = some (.int .i64 m0) ∧ wz2.cell? ⟨H, 2, none⟩ = some (.slice o0 n0 k0) ∧ wz2.cell? ⟨bg, 0, none⟩ = some (.int .i64 gDa) ∧ wz2.cell? ⟨bg, 1, none⟩ = some (.int .i64 gDb) ∧ wz2.cell? ⟨bg, 2, none⟩ = some (.int .i64 gDc) ∧ wz2.cell? ⟨bg, 3, none⟩ = some (.slice pg lD kg) ∧ wz2.cell? ⟨bh, 0, none⟩ = some (.int .i64 gDa) ∧ wz2.cell? ⟨bh, 1, none⟩ = some (.int .i64 gDb) ∧ wz2.cell? ⟨bh, 2, none⟩ = some (.int .i64 gDc) ∧ wz2.cell? ⟨bh, 3, none⟩ = some (.slice ph lD kh) ∧ wz2.cell? ⟨bi, 0, none⟩ = some (.int .i64 gFa) ∧ wz2.cell? ⟨bi, 1, none⟩ = some (.int .i64 gFb) ∧ wz2.cell? ⟨bi, 2, none⟩ = some (.int .i64 gFc) ∧ wz2.cell? ⟨bi, 3, none⟩ = some (.slice pi lF ki) ∧ wz2.cell? ⟨bj, 0, none⟩ = some (.int .i64 gFa) ∧ wz2.cell? ⟨bj, 1, none⟩ = some (.int .i64 gFb) ∧ wz2.cell? ⟨bj, 2, none⟩ = some (.int .i64 gFc) ∧ wz2.cell? ⟨bj, 3, none⟩ = some (.slice pj lF kj) ∧ wz2.cell? ⟨bxe, 0, none⟩ = some (.int .i64 y0) ∧ wz2.cell? ⟨bxe, 1, none⟩ = some (.int .i64 y1) ∧ wz2.cell? ⟨bxe, 2, none⟩ = some (.int .i64 y2) ∧ wz2.cell? ⟨bxe, 3, none⟩ = some (.int .i64 y3) ∧ wz2.cell? ⟨bxe, 4, none⟩ = some (.int .i64 y4) ∧ wz2.cell? ⟨bxe, 5, none⟩ = some (.int .i64 y5) ∧ wz2.cell? ⟨bxe, 6, none⟩ = some (.int .i64 y6) ∧ wz2.cell? ⟨bxe, 7, none⟩ = some (.int .u16 y7) ∧ wz2.cell? ⟨bxe, 8, none⟩ = some (.int .u8 y8) ∧ wz2.cell? ⟨bye, 0, none⟩ = some (.int .i64 y0) ∧ wz2.cell? ⟨bye, 1, none⟩ = some (.int .i64 y1) ∧ wz2.cell? ⟨bye, 2, none⟩ = some (.int .i64 y2) ∧ wz2.cell? ⟨bye, 3, none⟩ = some (.int .i64 y3) ∧ wz2.cell? ⟨bye, 4, none⟩ = some (.int .i64 y4) ∧ wz2.cell? ⟨bye, 5, none⟩ = some (.int .i64 y5) ∧ wz2.cell? ⟨bye, 6, none⟩ = some (.int .i64 y6) ∧ wz2.cell? ⟨bye, 7, none⟩ = some (.int .u16 y7) ∧ wz2.cell? ⟨bye, 8, none⟩ = some (.int .u8 y8) := ⟨a_17.cell 0 _ rfl, a_17.cell 1 _ rfl, a_17.cell 2 _ rfl, g_17.cell 0 _ rfl, g_17.cell 1 _ rfl, g_17.cell 2 _ rfl, g_17.cell 3 _ rfl, h_17.cell 0 _ rfl, h_17.cell 1 _ rfl, h_17.cell 2 _ rfl, h_17.cell 3 _ rfl, i_17.cell 0 _ rfl, i_17.cell 1 _ rfl, i_17.cell 2 _ rfl, i_17.cell 3 _ rfl, j_17.cell 0 _ rfl, j_17.cell 1 _ rfl, j_17.cell 2 _ rfl, j_17.cell 3 _ rfl, xe_17.cell 0 _ rfl, xe_17.cell 1 _ rfl, xe_17.cell 2 _ rfl, xe_17.cell 3 _ rfl, xe_17.cell 4 _ rfl, xe_17.cell 5 _ rfl, xe_17.cell 6 _ rfl, xe_17.cell 7 _ rfl, xe_17.cell 8 _ rfl, ye_17.cell 0 _ rfl, ye_17.cell 1 _ rfl, ye_17.cell 2 _ rfl, ye_17.cell 3 _ rfl, ye_17.cell 4 _ rfl, ye_17.cell 5 _ rfl, ye_17.cell 6 _ rfl, ye_17.cell 7 _ rfl, ye_17.cell 8 _ rfl⟩) | (go_at_call 17; (with_reducible refine (C1.out _ R0_17.out).mono ?_); rintro e wz3 ⟨rfl, bz3⟩; have a_18 := Blk.below a_17 bz3 a_17.lt; have g_18 := Blk.below g_17 bz3 g_17.lt; have h_18 := Blk.below h_17 bz3 h_17.lt; have i_18 := Blk.below i_17 bz3 i_17.lt; have j_18 := Blk.below j_17 bz3 j_17.lt; have xe_18 := Blk.below xe_17 bz3 xe_17.lt; have ye_18 := Blk.below ye_17 bz3 ye_17.lt; have R0_18 : Hid (RdE wz3 (.slice o0 n0 k0) n0 A0) := R0_17.out.below (w := wz2) bz3; have NG_18 : Hid (RdR wz3 (.slice pg lD kg) lD (atR LD)) := NG_17.out.below (w := wz2) bz3; have NH_18 : Hid (RdR wz3 (.slice ph lD kh) lD (atR LD)) := NH_17.out.below (w := wz2) bz3; have NI_18 : Hid (RdR wz3 (.slice pi lF ki) lF (atR LF)) := NI_17.out.below (w := wz2) bz3; have NJ_18 : Hid (RdR wz3 (.slice pj lF kj) lF (atR LF)) := NJ_17.out.below (w := wz2) bz3; have Q_18 := bup Q_17 (Nat.le_of_eq HH.out.symm) bz3; have hS4 : wz3.cell? ⟨H, 0, none⟩ = some (.int .i64 t0) ∧ wz3.cell? ⟨H, 1, none⟩ = some (.int .i64 m0) ∧ wz3.cell? ⟨H, 2, none⟩ = some (.slice o0 n0 k0) ∧ wz3.cell? ⟨bg, 0, none⟩ = some (.int .i64 gDa) ∧ wz3.cell? ⟨bg, 1, none⟩ = some (.int .i64 gDb) ∧ wz3.cell? ⟨bg, 2, none⟩ = some (.int .i64 gDc) ∧ wz3.cell? ⟨bg, 3, none⟩ = some (.slice pg lD kg) ∧ wz3.cell? ⟨bh, 0, none⟩ = some (.int .i64 gDa) ∧ wz3.cell? ⟨bh, 1, none⟩ = some (.int .i64 gDb) ∧ wz3.cell? ⟨bh, 2, none⟩ = some (.int .i64 gDc) ∧ wz3.cell? ⟨bh, 3, none⟩ = some (.slice ph lD kh) ∧ wz3.cell? ⟨bi, 0, none⟩ = some (.int .i64 gFa) ∧ wz3.cell? ⟨bi, 1, none⟩ = some (.int .i64 gFb) ∧ wz3.cell? ⟨bi, 2, none⟩ = some (.int .i64 gFc) ∧ wz3.cell? ⟨bi, 3, none⟩ = some (.slice pi lF ki) ∧ wz3.cell? ⟨bj, 0, none⟩ = some (.int .i64 gFa) ∧ wz3.cell? ⟨bj, 1, none⟩ = some (.int .i64 gFb) ∧ wz3.cell? ⟨bj, 2, none⟩ = some (.int .i64 gFc) ∧ wz3.cell? ⟨bj, 3, none⟩ = some (.slice pj lF kj) ∧ wz3.cell? ⟨bxe, 0, none⟩ = some (.int .i64 y0) ∧ wz3.cell? ⟨bxe, 1, none⟩ = some (.int .i64 y1) ∧ wz3.cell? ⟨bxe, 2, none⟩ = some (.int .i64 y2) ∧ wz3.cell? ⟨bxe, 3, none⟩ = some (.int .i64 y3) ∧ wz3.cell? ⟨bxe, 4, none⟩ = some (.int .i64 y4) ∧ wz3.cell? ⟨bxe, 5, none⟩ = some (.int .i64 y5) ∧ wz3.cell? ⟨bxe, 6, none⟩ = some (.int .i64 y6) ∧ wz3.cell? ⟨bxe, 7, none⟩ = some (.int .u16 y7) ∧ wz3.cell? ⟨bxe, 8, none⟩ = some (.int .u8 y8) ∧ wz3.cell? ⟨bye, 0, none⟩ = some (.int .i64 y0) ∧ wz3.cell? ⟨bye, 1, none⟩ = some (.int .i64 y1) ∧ wz3.cell? ⟨bye, 2, none⟩ = some (.int .i64 y2) ∧ wz3.cell? ⟨bye, 3, none⟩ = some (.int .i64 y3) ∧ wz3.cell? ⟨bye, 4, none⟩ = some (.int .i64 y4) ∧ wz3.cell? ⟨bye, 5, none⟩ = some (.int .i64 y5) ∧ wz3.cell? ⟨bye, 6, none⟩ = some (.int .i64 y6) ∧ wz3.cell? ⟨bye, 7, none⟩ = some (.int .u16 y7) ∧ wz3.cell? ⟨bye, 8, none⟩ = some (.int .u8 y8) := ⟨a_18.cell 0 _ rfl, a_18.cell 1 _ rfl, a_18.cell 2 _ rfl, g_18.cell 0 _ rfl, g_18.cell 1 _ rfl, g_18.cell 2 _ rfl, g_18.cell 3 _ rfl, h_18.cell 0 _ rfl, h_18.cell 1 _ rfl, h_18.cell 2 _ rfl, h_18.cell 3 _ rfl, i_18.cell 0 _ rfl, i_18.cell 1 _ rfl, i_18.cell 2 _ rfl, i_18.cell 3 _ rfl, j_18.cell 0 _ rfl, j_18.cell 1 _ rfl, j_18.cell 2 _ rfl, j_18.cell 3 _ rfl, xe_18.cell 0 _ rfl, xe_18.cell 1 _ rfl, xe_18.cell 2 _ rfl, xe_18.cell 3 _ rfl, xe_18.cell 4 _ rfl, xe_18.cell 5 _ rfl, xe_18.cell 6 _ rfl, xe_18.cell 7 _ rfl, xe_18.cell 8 _ rfl, ye_18.cell 0 _ rfl, ye_18.cell 1 _ rfl, ye_18.cell 2 _ rfl, ye_18.cell 3 _ rfl, ye_18.cell 4 _ rfl, ye_18.cell 5 _ rfl, ye_18.cell 6 _ rfl, ye_18.cell 7 _ rfl, ye_18.cell 8 _ rfl⟩) | (go_at_call 18; (with_reducible refine (C2.out _ R0_18.out).mono ?_); rintro e wz4 ⟨rfl, bz4⟩; have a_19 := Blk.below a_18 bz4 a_18.lt; have g_19 := Blk.below g_18 bz4 g_18.lt; have h_19 := Blk.below h_18 bz4 h_18.lt; have i_19 := Blk.below i_18 bz4 i_18.lt; have j_19 := Blk.below j_18 bz4 j_18.lt; have xe_19 := Blk.below xe_18 bz4 xe_18.lt; have ye_19 := Blk.below ye_18 bz4 ye_18.lt; have R0_19 : Hid (RdE wz4 (.slice o0 n0 k0) n0 A0) := R0_18.out.below (w := wz3) bz4; have NG_19 : Hid (RdR wz4 (.slice pg lD kg) lD (atR LD)) := NG_18.out.below (w := wz3) bz4; have NH_19 : Hid (RdR wz4 (.slice ph lD kh) lD (atR LD)) := NH_18.out.below (w := wz3) bz4; have NI_19 : Hid (RdR wz4 (.slice pi lF ki) lF (atR LF)) := NI_18.out.below (w := wz3) bz4; have NJ_19 : Hid (RdR wz4 (.slice pj lF kj) lF (atR LF)) := NJ_18.out.below (w := wz3) bz4; have Q_19 := bup Q_18 (Nat.le_of_eq HH.out.symm) bz4; have hS5 : wz4.cell? ⟨H, 0, none⟩ = some (.int .i64 t0) ∧ wz4.cell? ⟨H, 1, none⟩ = some (.int .i64 m0) ∧ wz4.cell? ⟨H, 2, none⟩ = some (.slice o0 n0 k0) ∧ wz4.cell? ⟨bg, 0, none⟩ = some (.int .i64 gDa) ∧ wz4.cell? ⟨bg, 1, none⟩ = some (.int .i64 gDb) ∧ wz4.cell? ⟨bg, 2, none⟩ = some (.int .i64 gDc) ∧ wz4.cell? ⟨bg, 3, none⟩ = some (.slice pg lD kg) ∧ wz4.cell? ⟨bh, 0, none⟩ = some (.int .i64 gDa) ∧ wz4.cell? ⟨bh, 1, none⟩ = some (.int .i64 gDb) ∧ wz4.cell? ⟨bh, 2, none⟩ = some (.int .i64 gDc) ∧ wz4.cell? ⟨bh, 3, none⟩ = some (.slice ph lD kh) ∧ wz4.cell? ⟨bi, 0, none⟩ = some (.int .i64 gFa) ∧ wz4.cell? ⟨bi, 1, none⟩ = some (.int .i64 gFb) ∧ wz4.cell? ⟨bi, 2, none⟩ = some (.int .i64 gFc) ∧ wz4.cell? ⟨bi, 3, none⟩ = some (.slice pi lF ki) ∧ wz4.cell? ⟨bj, 0, none⟩ = some (.int .i64 gFa) ∧ wz4.cell? ⟨bj, 1, none⟩ = some (.int .i64 gFb) ∧ wz4.cell? ⟨bj, 2, none⟩ = some (.int .i64 gFc) ∧ wz4.cell? ⟨bj, 3, none⟩ = some (.slice pj lF kj) ∧ wz4.cell? ⟨bxe, 0, none⟩ = some (.int .i64 y0) ∧ wz4.cell? ⟨bxe, 1, none⟩ = some (.int .i64 y1) ∧ wz4.cell? ⟨bxe, 2, none⟩ = some (.int .i64 y2) ∧ wz4.cell? ⟨bxe, 3, none⟩ = some (.int .i64 y3) ∧ wz4.cell? ⟨bxe, 4, none⟩ = some (.int .i64 y4) ∧ wz4.cell? ⟨bxe, 5, none⟩ = some (.int .i64 y5) ∧ wz4.cell? ⟨bxe, 6, none⟩ = some (.int .i64 y6) ∧ wz4.cell? ⟨bxe, 7, none⟩ = some (.int .u16 y7) ∧ wz4.cell? ⟨bxe, 8, none⟩ = some (.int .u8 y8) ∧ wz4.cell? ⟨bye, 0, none⟩ = some (.int .i64 y0) ∧ wz4.cell? ⟨bye, 1, none⟩ = some (.int .i64 y1) ∧ wz4.cell? ⟨bye, 2, none⟩ = some (.int .i64 y2) ∧ wz4.cell? ⟨bye, 3, none⟩ = some (.int .i64 y3) ∧ wz4.cell? ⟨bye, 4, none⟩ = some (.int .i64 y4) ∧ wz4.cell? ⟨bye, 5, none⟩ = some (.int .i64 y5) ∧ wz4.cell? ⟨bye, 6, none⟩ = some (.int .i64 y6) ∧ wz4.cell? ⟨bye, 7, none⟩ = some (.int .u16 y7) ∧ wz4.cell? ⟨bye, 8, none⟩ = some (.int .u8 y8) := ⟨a_19.cell 0 _ rfl, a_19.cell 1 _ rfl, a_19.cell 2 _ rfl, g_19.cell 0 _ rfl, g_19.cell 1 _ rfl, g_19.cell 2 _ rfl, g_19.cell 3 _ rfl, h_19.cell 0 _ rfl, h_19.cell 1 _ rfl, h_19.cell 2 _ rfl, h_19.cell 3 _ rfl, i_19.cell 0 _ rfl, i_19.cell 1 _ rfl, i_19.cell 2 _ rfl, i_19.cell 3 _ rfl, j_19.cell 0 _ rfl, j_19.cell 1 _ rfl, j_19.cell 2 _ rfl, j_19.cell 3 _ rfl, xe_19.cell 0 _ rfl, xe_19.cell 1 _ rfl, xe_19.cell 2 _ rfl, xe_19.cell 3 _ rfl, xe_19.cell 4 _ rfl, xe_19.cell 5 _ rfl, xe_19.cell 6 _ rfl, xe_19.cell 7 _ rfl, xe_19.cell 8 _ rfl, ye_19.cell 0 _ rfl, ye_19.cell 1 _ rfl, ye_19.cell 2 _ rfl, ye_19.cell 3 _ rfl, ye_19.cell 4 _ rfl, ye_19.cell 5 _ rfl, ye_19.cell 6 _ rfl, ye_19.cell 7 _ rfl, ye_19.cell 8 _ rfl⟩))
    go_wp2_with fail
    go_ret
    exact ⟨rfl, by rw [HH.out]; exact Q_19⟩
  · -- one is
    go_wp2_with fail
    refine (dl_alive _).mono ?_; rintro e w9 ⟨rfl, b9⟩
    go_wp2_with fail
    go_ret
    exact ⟨rfl, by rw [HH.out]; exact bup Q_2 (Nat.le_of_eq HH.out.symm) b9⟩

set_option maxRecDepth 100000 in
theorem lifted (os : Os) (started : os.Started) (H : Type) (enc : TypeId × Value → H) :
    ReturnsInHanded {} Tryz.checked os 3 .any (Rows.deltaDiffsSpec.pre6 enc Tryz.prog Tryz.f3 Rows.deltaDiffsRow.domain false) (Rows.deltaDiffsSpec.post enc Tryz.prog Tryz.f3 false true false false) := by
  refine returnsInHanded_of_change (C := Tryz.checked) own started (by kernel_rfl) Tryz.func3
    (ChangeSpec.witness6 (enc := enc) (C := Tryz.checked) false ⟨#[], #[.agg #[.int .i64 0, .int .i64 0, .slice none 0 0], .agg #[.int .i64 0, .int .i64 0, .slice none 0 0], .int .i64 0], []⟩ 8 (by kernel_rfl) (by kernel_rfl) (by kernel_rfl) (by kernel_rfl)) ?_
  intro W base args ds gs before hval0 hW hcnd _
  have hval : ∀ (j : Nat) t v, Tryz.f3.params[j]? = some t → args[j]? = some v → Value.okWide Tryz.prog W .any base t v := hval0
  have hW' := hW
  obtain ⟨p, q, hA0, hV, rfl, hfz, hnd⟩ := hW
  have hA : DataW.TrodAll enc Tryz.prog W 0 (fun _ => true) true Tryz.f3.params.toList args.toList ds p := hA0
  rw [Tryz.params3] at hA hval
  obtain ⟨v0, vs0, d0, ds0, p0, q0, hargs, rfl, rfl, h0, r0⟩ := trodAll_cons hA
  obtain ⟨v1, vs1, d1, ds1, p1, q1, rfl, rfl, rfl, h1, r1⟩ := trodAll_cons r0
  obtain ⟨v2, vs2, d2, ds2, p2, q2, rfl, rfl, rfl, h2, r2⟩ := trodAll_cons r1
  obtain ⟨rfl, rfl, rfl⟩ := trodAll_nil r2
  obtain rfl : args = #[v0, v1, v2] := by cases args; simp_all
  obtain ⟨rfl, rfl⟩ := trodVars_none hV
  have hlt := hW'.lt
  have k0 := h0
  obtain ⟨t0, m0, u0, n0, A0, e0, st0, sm0, b0, rd0⟩ := open_snap (hval 0 24 v0 rfl rfl) h0
  subst e0
  have k1 := h1
  obtain ⟨t1, m1, u1, n1, A1, e1, st1, sm1, b1, rd1⟩ := open_snap (hval 1 24 v1 rfl rfl) h1
  subst e1
  have k2 := h2
  obtain ⟨a2, rfl, rfl, rfl, w2⟩ := open_int Tryz.underlying3 (hval 2 3 v2 rfl rfl) h2
  clear hA0 hval0
  refine (walk W t0 m0 u0 n0 A0 st0 sm0 b0 rd0 t1 m1 u1 n1 A1 st1 sm1 b1 rd1 a2 w2).mono fun e W' ⟨he, hg⟩ => ?_
  subst he
  exact ⟨_, rfl, post_of_below hW' (fun _ _ _ => (trodAll_cons_mk (shut_bool Tryz.underlying4 _) trodAll_mk0)) (trodAll_cons_mk (Below.trod laidOut (by kernel_rfl) (of_decide_eq_true (by kernel_rfl)) k0 hg (fun x hx => by first | exact absurd hx (by simp) | exact hlt x (by simp [hx]))) (trodAll_cons_mk (Below.trod laidOut (by kernel_rfl) (of_decide_eq_true (by kernel_rfl)) k1 hg (fun x hx => by first | exact absurd hx (by simp) | exact hlt x (by simp [hx]))) (trodAll_cons_mk (Below.trod laidOut (by kernel_rfl) (of_decide_eq_true (by kernel_rfl)) k2 hg (fun x hx => by first | exact absurd hx (by simp) | exact hlt x (by simp [hx]))) trodAll_mk0))) rfl hg⟩

theorem over : Rows.deltaDiffsRow.holds Tryz.pinned (OpenSpec.ofChange Rows.deltaDiffsSpec) :=
  OpenClaim.holds_of_wide 3 Tryz.f3 rfl rfl rfl rfl rfl rfl rfl ⟨rfl, rfl, rfl, rfl, rfl⟩ rfl rfl rfl rfl rfl (by kernel_rfl) Tryz.func3 (by kernel_rfl)
    (of_decide_eq_true (by kernel_rfl)) (by unfold Func.isWrapper; first | (rw [if_pos (by decide +kernel)]; kernel_rfl) | (rw [if_neg (by decide +kernel)]; exact ⟨rfl, rfl⟩))
    (fun os started H enc _ => lifted os started H enc)
end DeltaDiffsL

theorem deltaDiffs_proved : Rows.DeltaDiffsSaid := DeltaDiffsL.over
#print axioms deltaDiffs_proved
end Go.Proofs.YtokegpajjicehaaGreat
