/-
  Proved: of any bytes the datagram that Read makes is the document's own, or why there is none; so it is of them with a right sum laid behind (the law GramReads answers true at every input).
  Conditions: none.
-/
import Derived.Test.YtlhfelelgkkblaaRows
import Derived.Test.YtlhfelelgkkblaaP20
namespace Go.Proofs.Ytlhfelelgkkblaa
open Go.ChangeShapes Go.WideShapes Go.ChangeAt Go.RowKit
set_option linter.unusedVariables false

namespace GramReadsL
theorem own : ownKnob Try.prog.godebug = none := by kernel_rfl

set_option maxRecDepth 20000 in
set_option maxHeartbeats 8000000 in
theorem walk (w : World) (v : Value) (l : List Int) (hb : Bytes l) (h : Rd w v l) :
    Calls Try.prog 4 #[v] w fun e w' => e = .returned (.bool true) ∧ Below w.heap.size w w' := by
  have HB : Hid (Bytes l) := hb
  have HR : Hid (Rd w v l) := h
  obtain ⟨N, hN⟩ : ∃ N, l.length = N := ⟨_, rfl⟩
  have HN : Hid (l.length = N) := hN
  obtain ⟨ao, cap, rfl, hc, hm, _⟩ := h
  rw [hN] at hc HR ⊢
  clear hN hb
  by_cases hbig : 5000 < N
  · go_enter Try.func4, Try.ntmps4
    go_wp2_with fail
    refine (gm_alive _).mono ?_; rintro e w1 ⟨rfl, b1⟩
    go_wp2_with fail
    go_ret
    exact ⟨rfl, b1⟩
  have RC : Hid (∀ w', Rd w' (.slice ao N cap) l → Calls Try.prog 14 #[.slice ao N cap] w' fun e w'' => ∃ u, e = .returned (.tuple #[gmV (rgG l) u, .int .i64 (rgE l)]) ∧ OwnR w'' w'.heap.size u (rgL l) ∧ Below w'.heap.size w' w'') := fun w' h' => gm_read w' _ l HB.out h' (by rw [HN.out]; omega)
  have RF : Hid (∀ w', Rd w' (.slice ao N cap) l → Calls Try.prog 15 #[.slice ao N cap] w' fun e w'' => ∃ u, e = .returned (.tuple #[gmV (rgG l) u, .int .i64 (rgE l)]) ∧ OwnR w'' w'.heap.size u (rgL l) ∧ Below w'.heap.size w' w'') := fun w' h' => dg_read w' _ l HB.out h' (by rw [HN.out]; omega)
  have SL : Hid ((sealed l).length = N + 4) := (by rw [sealed_len, HN.out] : (sealed l).length = N + 4)
  have SC : Hid (∀ x w', Rd w' x (sealed l) → Calls Try.prog 14 #[x] w' fun e w'' => ∃ u, e = .returned (.tuple #[gmV (rgG (sealed l)) u, .int .i64 (rgE (sealed l))]) ∧ OwnR w'' w'.heap.size u (rgL (sealed l)) ∧ Below w'.heap.size w' w'') := fun x w' h' => gm_read w' _ (sealed l) (sealed_ok HB.out) h' (by rw [SL.out]; omega)
  have SF : Hid (∀ x w', Rd w' x (sealed l) → Calls Try.prog 15 #[x] w' fun e w'' => ∃ u, e = .returned (.tuple #[gmV (rgG (sealed l)) u, .int .i64 (rgE (sealed l))]) ∧ OwnR w'' w'.heap.size u (rgL (sealed l)) ∧ Below w'.heap.size w' w'') := fun x w' h' => dg_read w' _ (sealed l) (sealed_ok HB.out) h' (by rw [SL.out]; omega)
  obtain ⟨E, hE⟩ : ∃ x, rgE l = x := ⟨_, rfl⟩
  obtain ⟨G, hG⟩ : ∃ x, rgG l = x := ⟨_, rfl⟩
  obtain ⟨L, hL⟩ : ∃ x, rgL l = x := ⟨_, rfl⟩
  obtain ⟨E2, hE2⟩ : ∃ x, rgE (sealed l) = x := ⟨_, rfl⟩
  obtain ⟨G2, hG2⟩ : ∃ x, rgG (sealed l) = x := ⟨_, rfl⟩
  obtain ⟨L2, hL2⟩ : ∃ x, rgL (sealed l) = x := ⟨_, rfl⟩
  rw [hE, hG, hL] at RC RF
  rw [hE2, hG2, hL2] at SC SF
  clear hE hG hL hE2 hG2 hL2
  obtain ⟨t, m, b⟩ := G
  obtain ⟨t2, m2, b2⟩ := G2
  obtain ⟨nL, hnL⟩ : ∃ n, L.length = n := ⟨_, rfl⟩
  obtain ⟨nL2, hnL2⟩ : ∃ n, L2.length = n := ⟨_, rfl⟩
  have HL : Hid (L.length = nL) := hnL
  have HL2 : Hid (L2.length = nL2) := hnL2
  clear hnL hnL2
  obtain ⟨H, hH⟩ : ∃ H, w.heap.size = H := ⟨_, rfl⟩
  have HH : Hid (w.heap.size = H) := hH
  have hle : H ≤ w.heap.size := by omega
  rw [hH]
  have B0 : Below H w w := Below.refl _ _
  have Q0 : Hid (Rd w (.slice ao N cap) l) := HR.out
  clear HR hH
  go_enter Try.func4, Try.ntmps4
  go_wp2_with fail
  refine (RC.out _ Q0.out).mono ?_; rintro e w1 ⟨u1', rfl, own1, bb1⟩
  have Q1 : Hid (Rd w1 (.slice ao N cap) l) := Q0.out.below bb1
  clear Q0
  have B1 := bup B0 hle bb1
  clear B0
  obtain ⟨ao1, cap1, e1⟩ := own1.form
  have OO1 : Hid (OwnR w1 w.heap.size u1' L) := own1
  rw [HL.out] at e1
  subst e1
  clear own1 bb1
  go_upto_region 4 with fail
  generalize hV : w1.alloc (.cells #[.int .i64 t, .int .i64 m, .int .i64 b, .slice ao1 nL cap1] 24) = w2
  obtain ⟨X1_2, bb2, _⟩ := boxed hV
  have Q2 : Hid (Rd w2 (.slice ao N cap) l) := Q1.out.below bb2
  clear Q1
  have B2 := bup B1 hle bb2
  clear B1
  have D1_2 : Hid (RdR w2 (.slice ao1 nL cap1) nL (fun j => L.getD j noRec)) := by have h3 := (OwnR.below OO1.out bb2).rdR; rw [HL.out] at h3; exact h3
  obtain ⟨S1, hS1⟩ : ∃ S, w1.heap.size = S := ⟨_, rfl⟩
  rw [hS1] at X1_2
  rw [hS1]
  clear hV bb2 hS1 OO1
  go_wp2_with fail
  refine (RF.out _ Q2.out).mono ?_; rintro e w3 ⟨u2', rfl, own2, bb3⟩
  have X1_3 := X1_2.below bb3 X1_2.lt
  have D1_3 : Hid (RdR w3 (.slice ao1 nL cap1) nL (fun j => L.getD j noRec)) := D1_2.out.below bb3
  clear X1_2 D1_2
  have Q3 : Hid (Rd w3 (.slice ao N cap) l) := Q2.out.below bb3
  clear Q2
  have B3 := bup B2 hle bb3
  clear B2
  obtain ⟨ao2, cap2, e2⟩ := own2.form
  have OO2 : Hid (OwnR w3 w2.heap.size u2' L) := own2
  rw [HL.out] at e2
  subst e2
  clear own2 bb3
  go_upto_region 5 with fail
  generalize hV : w3.alloc (.cells #[.int .i64 t, .int .i64 m, .int .i64 b, .slice ao2 nL cap2] 24) = w4
  obtain ⟨X2_4, bb4, _⟩ := boxed hV
  have X1_4 := X1_3.below bb4 X1_3.lt
  have D1_4 : Hid (RdR w4 (.slice ao1 nL cap1) nL (fun j => L.getD j noRec)) := D1_3.out.below bb4
  clear X1_3 D1_3
  have Q4 : Hid (Rd w4 (.slice ao N cap) l) := Q3.out.below bb4
  clear Q3
  have B4 := bup B3 hle bb4
  clear B3
  have D2_4 : Hid (RdR w4 (.slice ao2 nL cap2) nL (fun j => L.getD j noRec)) := by have h3 := (OwnR.below OO2.out bb4).rdR; rw [HL.out] at h3; exact h3
  obtain ⟨S2, hS2⟩ : ∃ S, w3.heap.size = S := ⟨_, rfl⟩
  rw [hS2] at X2_4
  rw [hS2]
  clear hV bb4 hS2 OO2
  go_wp2_with fail
  refine (seal_any _ _ l HB.out Q4.out (by rw [HN.out]; omega)).mono ?_; rintro e w5 ⟨us, rfl, owns, bb5⟩
  have X1_5 := X1_4.below bb5 X1_4.lt
  have D1_5 : Hid (RdR w5 (.slice ao1 nL cap1) nL (fun j => L.getD j noRec)) := D1_4.out.below bb5
  clear X1_4 D1_4
  have X2_5 := X2_4.below bb5 X2_4.lt
  have D2_5 : Hid (RdR w5 (.slice ao2 nL cap2) nL (fun j => L.getD j noRec)) := D2_4.out.below bb5
  clear X2_4 D2_4
  have Q5 : Hid (Rd w5 (.slice ao N cap) l) := Q4.out.below bb5
  clear Q4
  have B5 := bup B4 hle bb5
  clear B4
  have T5 : Hid (Rd w5 us (sealed l)) := owns.rd
  clear owns bb5 Q5
  go_wp2_with fail
  refine (SC.out _ _ T5.out).mono ?_; rintro e w6 ⟨u3', rfl, own3, bb6⟩
  have X1_6 := X1_5.below bb6 X1_5.lt
  have D1_6 : Hid (RdR w6 (.slice ao1 nL cap1) nL (fun j => L.getD j noRec)) := D1_5.out.below bb6
  clear X1_5 D1_5
  have X2_6 := X2_5.below bb6 X2_5.lt
  have D2_6 : Hid (RdR w6 (.slice ao2 nL cap2) nL (fun j => L.getD j noRec)) := D2_5.out.below bb6
  clear X2_5 D2_5
  have T6 : Hid (Rd w6 us (sealed l)) := T5.out.below bb6
  clear T5
  have B6 := bup B5 hle bb6
  clear B5
  obtain ⟨ao3, cap3, e3⟩ := own3.form
  have OO3 : Hid (OwnR w6 w5.heap.size u3' L2) := own3
  rw [HL2.out] at e3
  subst e3
  clear own3 bb6
  go_upto_region 7 with fail
  generalize hV : w6.alloc (.cells #[.int .i64 t2, .int .i64 m2, .int .i64 b2, .slice ao3 nL2 cap3] 24) = w7
  obtain ⟨X3_7, bb7, _⟩ := boxed hV
  have X1_7 := X1_6.below bb7 X1_6.lt
  have D1_7 : Hid (RdR w7 (.slice ao1 nL cap1) nL (fun j => L.getD j noRec)) := D1_6.out.below bb7
  clear X1_6 D1_6
  have X2_7 := X2_6.below bb7 X2_6.lt
  have D2_7 : Hid (RdR w7 (.slice ao2 nL cap2) nL (fun j => L.getD j noRec)) := D2_6.out.below bb7
  clear X2_6 D2_6
  have T7 : Hid (Rd w7 us (sealed l)) := T6.out.below bb7
  clear T6
  have B7 := bup B6 hle bb7
  clear B6
  have D3_7 : Hid (RdR w7 (.slice ao3 nL2 cap3) nL2 (fun j => L2.getD j noRec)) := by have h3 := (OwnR.below OO3.out bb7).rdR; rw [HL2.out] at h3; exact h3
  obtain ⟨S3, hS3⟩ : ∃ S, w6.heap.size = S := ⟨_, rfl⟩
  rw [hS3] at X3_7
  rw [hS3]
  clear hV bb7 hS3 OO3
  go_wp2_with fail
  refine (SF.out _ _ T7.out).mono ?_; rintro e w8 ⟨u4', rfl, own4, bb8⟩
  have X1_8 := X1_7.below bb8 X1_7.lt
  have D1_8 : Hid (RdR w8 (.slice ao1 nL cap1) nL (fun j => L.getD j noRec)) := D1_7.out.below bb8
  clear X1_7 D1_7
  have X2_8 := X2_7.below bb8 X2_7.lt
  have D2_8 : Hid (RdR w8 (.slice ao2 nL cap2) nL (fun j => L.getD j noRec)) := D2_7.out.below bb8
  clear X2_7 D2_7
  have X3_8 := X3_7.below bb8 X3_7.lt
  have D3_8 : Hid (RdR w8 (.slice ao3 nL2 cap3) nL2 (fun j => L2.getD j noRec)) := D3_7.out.below bb8
  clear X3_7 D3_7
  have T8 : Hid (Rd w8 us (sealed l)) := T7.out.below bb8
  clear T7
  have B8 := bup B7 hle bb8
  clear B7
  obtain ⟨ao4, cap4, e4⟩ := own4.form
  have OO4 : Hid (OwnR w8 w7.heap.size u4' L2) := own4
  rw [HL2.out] at e4
  subst e4
  clear own4 bb8
  go_upto_region 8 with fail
  generalize hV : w8.alloc (.cells #[.int .i64 t2, .int .i64 m2, .int .i64 b2, .slice ao4 nL2 cap4] 24) = w9
  obtain ⟨X4_9, bb9, _⟩ := boxed hV
  have X1_9 := X1_8.below bb9 X1_8.lt
  have D1_9 : Hid (RdR w9 (.slice ao1 nL cap1) nL (fun j => L.getD j noRec)) := D1_8.out.below bb9
  clear X1_8 D1_8
  have X2_9 := X2_8.below bb9 X2_8.lt
  have D2_9 : Hid (RdR w9 (.slice ao2 nL cap2) nL (fun j => L.getD j noRec)) := D2_8.out.below bb9
  clear X2_8 D2_8
  have X3_9 := X3_8.below bb9 X3_8.lt
  have D3_9 : Hid (RdR w9 (.slice ao3 nL2 cap3) nL2 (fun j => L2.getD j noRec)) := D3_8.out.below bb9
  clear X3_8 D3_8
  have T9 : Hid (Rd w9 us (sealed l)) := T8.out.below bb9
  clear T8
  have B9 := bup B8 hle bb9
  clear B8
  have D4_9 : Hid (RdR w9 (.slice ao4 nL2 cap4) nL2 (fun j => L2.getD j noRec)) := by have h3 := (OwnR.below OO4.out bb9).rdR; rw [HL2.out] at h3; exact h3
  obtain ⟨S4, hS4⟩ : ∃ S, w8.heap.size = S := ⟨_, rfl⟩
  rw [hS4] at X4_9
  rw [hS4]
  clear hV bb9 hS4 OO4
  clear RC RF SC SF
  go_wp2_with fail
  refine (gm_alive _).mono ?_; rintro e w10 ⟨rfl, bb10⟩
  have X1_10 := X1_9.below bb10 X1_9.lt
  have D1_10 : Hid (RdR w10 (.slice ao1 nL cap1) nL (fun j => L.getD j noRec)) := D1_9.out.below bb10
  clear X1_9 D1_9
  have X2_10 := X2_9.below bb10 X2_9.lt
  have D2_10 : Hid (RdR w10 (.slice ao2 nL cap2) nL (fun j => L.getD j noRec)) := D2_9.out.below bb10
  clear X2_9 D2_9
  have X3_10 := X3_9.below bb10 X3_9.lt
  have D3_10 : Hid (RdR w10 (.slice ao3 nL2 cap3) nL2 (fun j => L2.getD j noRec)) := D3_9.out.below bb10
  clear X3_9 D3_9
  have X4_10 := X4_9.below bb10 X4_9.lt
  have D4_10 : Hid (RdR w10 (.slice ao4 nL2 cap4) nL2 (fun j => L2.getD j noRec)) := D4_9.out.below bb10
  clear X4_9 D4_9
  have T10 : Hid (Rd w10 us (sealed l)) := T9.out.below bb10
  clear T9
  have B10 := bup B9 hle bb10
  clear B9
  have x0 := X1_10.cell 0 _ rfl
  have x1 := X1_10.cell 1 _ rfl
  have x2 := X1_10.cell 2 _ rfl
  have x3 := X1_10.cell 3 _ rfl
  have xl := X1_10.lt
  have y0 := X2_10.cell 0 _ rfl
  have y1 := X2_10.cell 1 _ rfl
  have y2 := X2_10.cell 2 _ rfl
  have y3 := X2_10.cell 3 _ rfl
  have yl := X2_10.lt
  clear bb10
  go_wp2_with fail
  refine (dg_same _ ⟨t, m, b⟩ _ _ nL _ D1_10.out D2_10.out).mono ?_; rintro e w11 ⟨rfl, bb11⟩
  clear x0 x1 x2 x3 xl y0 y1 y2 y3 yl
  have X1_11 := X1_10.below bb11 X1_10.lt
  have D1_11 : Hid (RdR w11 (.slice ao1 nL cap1) nL (fun j => L.getD j noRec)) := D1_10.out.below bb11
  clear X1_10 D1_10
  have X2_11 := X2_10.below bb11 X2_10.lt
  have D2_11 : Hid (RdR w11 (.slice ao2 nL cap2) nL (fun j => L.getD j noRec)) := D2_10.out.below bb11
  clear X2_10 D2_10
  have X3_11 := X3_10.below bb11 X3_10.lt
  have D3_11 : Hid (RdR w11 (.slice ao3 nL2 cap3) nL2 (fun j => L2.getD j noRec)) := D3_10.out.below bb11
  clear X3_10 D3_10
  have X4_11 := X4_10.below bb11 X4_10.lt
  have D4_11 : Hid (RdR w11 (.slice ao4 nL2 cap4) nL2 (fun j => L2.getD j noRec)) := D4_10.out.below bb11
  clear X4_10 D4_10
  have T11 : Hid (Rd w11 us (sealed l)) := T10.out.below bb11
  clear T10
  have B11 := bup B10 hle bb11
  clear B10
  have x0 := X3_11.cell 0 _ rfl
  have x1 := X3_11.cell 1 _ rfl
  have x2 := X3_11.cell 2 _ rfl
  have x3 := X3_11.cell 3 _ rfl
  have xl := X3_11.lt
  have y0 := X4_11.cell 0 _ rfl
  have y1 := X4_11.cell 1 _ rfl
  have y2 := X4_11.cell 2 _ rfl
  have y3 := X4_11.cell 3 _ rfl
  have yl := X4_11.lt
  clear bb11
  go_wp2_with fail
  refine (dg_same _ ⟨t2, m2, b2⟩ _ _ nL2 _ D3_11.out D4_11.out).mono ?_; rintro e w12 ⟨rfl, bb12⟩
  clear x0 x1 x2 x3 xl y0 y1 y2 y3 yl
  have BF := bup B11 hle bb12
  clear bb12
  go_wp2_with fail
  go_ret
  exact ⟨ret_bool (by simp), HH.out ▸ BF⟩

set_option maxRecDepth 100000 in
theorem lifted (os : Os) (started : os.Started) (H : Type) (enc : TypeId × Value → H) :
    ReturnsInHanded {} Try.checked os 4 .any (Rows.gramReadsSpec.pre6 enc Try.prog Try.f4 Rows.gramReadsRow.domain false) (Rows.gramReadsSpec.post enc Try.prog Try.f4 false true false false) := by
  refine returnsInHanded_of_change (C := Try.checked) own started (by kernel_rfl) Try.func4
    (ChangeSpec.witness6 (enc := enc) (C := Try.checked) false ⟨#[], #[.slice none 0 0], []⟩ 8 (by kernel_rfl) (by kernel_rfl) (by kernel_rfl) (by kernel_rfl)) ?_
  intro W base args ds gs before hval0 hW hcnd _
  have hval : ∀ (j : Nat) t v, Try.f4.params[j]? = some t → args[j]? = some v → Value.okWide Try.prog W .any base t v := hval0
  have hW' := hW
  obtain ⟨p, q, hA0, hV, rfl, hfz, hnd⟩ := hW
  have hA : DataW.TrodAll enc Try.prog W 0 (fun _ => true) true Try.f4.params.toList args.toList ds p := hA0
  rw [Try.params4] at hA hval
  obtain ⟨v0, vs0, d0, ds0, p0, q0, hargs, rfl, rfl, h0, r0⟩ := trodAll_cons hA
  obtain ⟨rfl, rfl, rfl⟩ := trodAll_nil r0
  obtain rfl : args = #[v0] := by cases args; simp_all
  obtain ⟨rfl, rfl⟩ := trodVars_none hV
  have hlt := hW'.lt
  have k0 := h0
  obtain ⟨l0, b0, e0⟩ := open_u8s (hval 0 26 v0 rfl rfl) h0
  clear hA0 hval0
  refine (walk W v0 l0 b0 e0).mono fun e W' ⟨he, hg⟩ => ?_
  subst he
  exact ⟨_, rfl, post_of_below hW' (fun _ _ _ => (trodAll_cons_mk (shut_bool Try.underlying4 _) trodAll_mk0)) (trodAll_cons_mk (Below.trod laidOut (by kernel_rfl) (of_decide_eq_true (by kernel_rfl)) k0 hg (fun x hx => by first | exact absurd hx (by simp) | exact hlt x (by simp [hx]))) trodAll_mk0) rfl hg⟩

theorem over : Rows.gramReadsRow.holds Try.pinned (OpenSpec.ofChange Rows.gramReadsSpec) :=
  OpenClaim.holds_of_wide 4 Try.f4 rfl rfl rfl rfl rfl rfl rfl ⟨rfl, rfl, rfl, rfl, rfl⟩ rfl rfl rfl rfl rfl (by kernel_rfl) Try.func4 (by kernel_rfl)
    (of_decide_eq_true (by kernel_rfl)) (by unfold Func.isWrapper; first | (rw [if_pos (by decide +kernel)]; kernel_rfl) | (rw [if_neg (by decide +kernel)]; exact ⟨rfl, rfl⟩))
    (fun os started H enc _ => lifted os started H enc)
end GramReadsL

theorem gramReads_proved : Rows.GramReadsSaid := GramReadsL.over
#print axioms gramReads_proved
end Go.Proofs.Ytlhfelelgkkblaa
