/-
  Proved: of any record, behind any one, the bytes that Write makes are the document's own, or why there are none, and so is Check (the law RecordWrites answers true at every input).
  Conditions: none.
-/
import Derived.Test.YtjjaodlgnoiheaaRows
import Derived.Test.YtjjaodlgnoiheaaFr8
import Derived.Test.YtjjaodlgnoiheaaRec7
import Derived.Test.YtjjaodlgnoiheaaRec8
namespace Go.Proofs.Ytjjaodlgnoiheaa
open Go.ChangeShapes Go.WideShapes Go.ChangeAt Go.RowKit
set_option linter.unusedVariables false

namespace RecordWritesL
theorem own : ownKnob Try.prog.godebug = none := by kernel_rfl

set_option maxRecDepth 8000 in
set_option maxHeartbeats 4000000 in
theorem walk (w : World) (r : Rc) (ok : r.ok) (last : Int) (hl : (Lit.int .i64 last).wf = true) :
    Calls Try.prog 3 #[recV r, .int .i64 last] w fun e w' => e = .returned (.bool true) ∧ Below w.heap.size w w' := by
  have bl := wf_i64 hl
  clear hl
  obtain ⟨l, hll⟩ : ∃ l, wrB r last = l := ⟨_, rfl⟩
  obtain ⟨er, her⟩ : ∃ e, wrE r last = e := ⟨_, rfl⟩
  obtain ⟨c, hc⟩ : ∃ c, chk r = c := ⟨_, rfl⟩
  have HL : Hid (wrB r last = l) := hll
  have HE : Hid (wrE r last = er) := her
  have HC : Hid (chk r = c) := hc
  have OK : Hid r.ok := ok
  have BL : Hid (S64 last) := bl
  clear hll her hc ok bl
  go_enter Try.func3, Try.ntmps3
  go_wp2_with fail
  generalize hW : w.alloc (.cells (recA r) 25) = W0
  obtain ⟨A00, B00, Z0⟩ := boxed hW
  clear hW Z0
  obtain ⟨H, hH⟩ : ∃ H, w.heap.size = H := ⟨_, rfl⟩
  have HH : Hid (w.heap.size = H) := hH
  have hle : H ≤ w.heap.size := by omega
  rw [hH] at A00 B00
  rw [hH]
  clear hH
  refine (rec_write _ r last OK.out BL.out).mono ?_; rw [HL.out, HE.out]; rintro e' W1 ⟨u1, rfl, own1, bb⟩
  have A1' := A00.below bb A00.lt
  have B1' := bup B00 hle bb
  have RR1 : Hid (Rd W1 u1 l) := own1.rd
  clear own1 A00 B00 bb
  have c0 := A1'.cell 0 _ rfl
  have c1 := A1'.cell 1 _ rfl
  have c2 := A1'.cell 2 _ rfl
  have c3 := A1'.cell 3 _ rfl
  have c4 := A1'.cell 4 _ rfl
  have c5 := A1'.cell 5 _ rfl
  have c6 := A1'.cell 6 _ rfl
  have c7 := A1'.cell 7 _ rfl
  have c8 := A1'.cell 8 _ rfl
  have lt1 := A1'.lt
  go_wp2_with fail
  clear c0 c1 c2 c3 c4 c5 c6 c7 c8 lt1
  refine (doc_write _ r last OK.out BL.out).mono ?_; rw [HL.out, HE.out]; rintro e' W2 ⟨u2, rfl, own2, bb⟩
  have A0 := A1'.below bb A1'.lt
  have B0 := bup B1' hle bb
  have R0_1 : Hid (Rd W2 u1 l) := RR1.out.below bb
  have R0_2 : Hid (Rd W2 u2 l) := own2.rd
  clear own2 A1' B1' bb RR1
  obtain ⟨S, hS⟩ : ∃ S, strOfNums l = S := ⟨_, rfl⟩
  have HS : Hid (strOfNums l = S) := hS
  clear hS
  have y0_0 := A0.cell 0 _ rfl
  have y1_0 := A0.cell 1 _ rfl
  have y2_0 := A0.cell 2 _ rfl
  have y3_0 := A0.cell 3 _ rfl
  have y4_0 := A0.cell 4 _ rfl
  have y5_0 := A0.cell 5 _ rfl
  have y6_0 := A0.cell 6 _ rfl
  have y7_0 := A0.cell 7 _ rfl
  have y8_0 := A0.cell 8 _ rfl
  have p_0 : (convert 26 9 u1).run Try.prog W2 = .ok (.string S) W2 := (str_run R0_1.out).trans (by rw [HS.out])
  have q_0 : (convert 26 9 u2).run Try.prog W2 = .ok (.string S) W2 := (str_run R0_2.out).trans (by rw [HS.out])
  have p_0d : (convert 26 9 u1).run Try.prog W2.drew = .ok (.string S) W2.drew := (str_run (w := W2.drew) R0_1.out).trans (by rw [HS.out])
  have q_0d : (convert 26 9 u2).run Try.prog W2.drew = .ok (.string S) W2.drew := (str_run (w := W2.drew) R0_2.out).trans (by rw [HS.out])
  have lt0 := A0.lt
  go_wp2_with fail
  go_region_held3 (fun w' => w'.cell? ⟨H, 0, none⟩ = some (.int .i64 r.k) ∧ w'.cell? ⟨H, 1, none⟩ = some (.int .i64 r.i) ∧ w'.cell? ⟨H, 2, none⟩ = some (.int .i64 r.p0) ∧ w'.cell? ⟨H, 3, none⟩ = some (.int .i64 r.p1) ∧ w'.cell? ⟨H, 4, none⟩ = some (.int .i64 r.p2) ∧ w'.cell? ⟨H, 5, none⟩ = some (.int .i64 r.v0) ∧ w'.cell? ⟨H, 6, none⟩ = some (.int .i64 r.v1) ∧ w'.cell? ⟨H, 7, none⟩ = some (.int .i64 r.v2) ∧ w'.cell? ⟨H, 8, none⟩ = some (.int .u16 r.a) ∧ (convert 26 9 u1).run Try.prog w' = .ok (.string S) w' ∧ (convert 26 9 u2).run Try.prog w' = .ok (.string S) w') (first | with_reducible exact ⟨y0_3, y1_3, y2_3, y3_3, y4_3, y5_3, y6_3, y7_3, y8_3, p_3, q_3⟩ | with_reducible exact ⟨y0_2, y1_2, y2_2, y3_2, y4_2, y5_2, y6_2, y7_2, y8_2, p_2, q_2⟩ | with_reducible exact ⟨y0_1, y1_1, y2_1, y3_1, y4_1, y5_1, y6_1, y7_1, y8_1, p_1, q_1⟩ | with_reducible exact ⟨y0_0, y1_0, y2_0, y3_0, y4_0, y5_0, y6_0, y7_0, y8_0, p_0d, q_0d⟩ | with_reducible exact ⟨y0_0, y1_0, y2_0, y3_0, y4_0, y5_0, y6_0, y7_0, y8_0, p_0, q_0⟩ | go_keep)
    (first
      | (go_at_call 14; (with_reducible refine (rec_alive _).mono ?_); rintro e' v1 ⟨rfl, bb⟩; have A1 := A0.drew.below bb A0.lt; have B1 := bup B0.drew hle bb; have R1_1 : Hid (Rd v1 u1 l) := Rd.below (w := W2.drew) R0_1.out bb; have R1_2 : Hid (Rd v1 u2 l) := Rd.below (w := W2.drew) R0_2.out bb; clear bb; have y0_1 := A1.cell 0 _ rfl; have y1_1 := A1.cell 1 _ rfl; have y2_1 := A1.cell 2 _ rfl; have y3_1 := A1.cell 3 _ rfl; have y4_1 := A1.cell 4 _ rfl; have y5_1 := A1.cell 5 _ rfl; have y6_1 := A1.cell 6 _ rfl; have y7_1 := A1.cell 7 _ rfl; have y8_1 := A1.cell 8 _ rfl; have p_1 : (convert 26 9 u1).run Try.prog v1 = .ok (.string S) v1 := (str_run R1_1.out).trans (by rw [HS.out]); have q_1 : (convert 26 9 u2).run Try.prog v1 = .ok (.string S) v1 := (str_run R1_2.out).trans (by rw [HS.out]))
      | (go_at_call 15; (with_reducible refine (rec_check _ r).mono ?_); rw [HC.out]; rintro e' v2 ⟨rfl, bb⟩; have A2 := A1.below bb A1.lt; have B2 := bup B1 hle bb; have R2_1 : Hid (Rd v2 u1 l) := Rd.below (w := v1) R1_1.out bb; have R2_2 : Hid (Rd v2 u2 l) := Rd.below (w := v1) R1_2.out bb; clear bb; have y0_2 := A2.cell 0 _ rfl; have y1_2 := A2.cell 1 _ rfl; have y2_2 := A2.cell 2 _ rfl; have y3_2 := A2.cell 3 _ rfl; have y4_2 := A2.cell 4 _ rfl; have y5_2 := A2.cell 5 _ rfl; have y6_2 := A2.cell 6 _ rfl; have y7_2 := A2.cell 7 _ rfl; have y8_2 := A2.cell 8 _ rfl; have p_2 : (convert 26 9 u1).run Try.prog v2 = .ok (.string S) v2 := (str_run R2_1.out).trans (by rw [HS.out]); have q_2 : (convert 26 9 u2).run Try.prog v2 = .ok (.string S) v2 := (str_run R2_2.out).trans (by rw [HS.out]))
      | (go_at_call 16; (with_reducible refine (doc_check _ r).mono ?_); rw [HC.out]; rintro e' v3 ⟨rfl, bb⟩; have A3 := A2.below bb A2.lt; have B3 := bup B2 hle bb; have R3_1 : Hid (Rd v3 u1 l) := Rd.below (w := v2) R2_1.out bb; have R3_2 : Hid (Rd v3 u2 l) := Rd.below (w := v2) R2_2.out bb; clear bb; have y0_3 := A3.cell 0 _ rfl; have y1_3 := A3.cell 1 _ rfl; have y2_3 := A3.cell 2 _ rfl; have y3_3 := A3.cell 3 _ rfl; have y4_3 := A3.cell 4 _ rfl; have y5_3 := A3.cell 5 _ rfl; have y6_3 := A3.cell 6 _ rfl; have y7_3 := A3.cell 7 _ rfl; have y8_3 := A3.cell 8 _ rfl; have p_3 : (convert 26 9 u1).run Try.prog v3 = .ok (.string S) v3 := (str_run R3_1.out).trans (by rw [HS.out]); have q_3 : (convert 26 9 u2).run Try.prog v3 = .ok (.string S) v3 := (str_run R3_2.out).trans (by rw [HS.out])))
  go_wp2_with fail
  go_ret
  exact ⟨ret_bool (by simp), HH.out ▸ B3⟩

set_option maxRecDepth 100000 in
theorem lifted (os : Os) (started : os.Started) (H : Type) (enc : TypeId × Value → H) :
    ReturnsInHanded {} Try.checked os 3 .any (Rows.recordWritesSpec.pre6 enc Try.prog Try.f3 Rows.recordWritesRow.domain false) (Rows.recordWritesSpec.post enc Try.prog Try.f3 false true false false) := by
  refine returnsInHanded_of_change (C := Try.checked) own started (by kernel_rfl) Try.func3
    (ChangeSpec.witness6 (enc := enc) (C := Try.checked) false ⟨#[], #[.agg #[.int .i64 0, .int .i64 0, .int .i64 0, .int .i64 0, .int .i64 0, .int .i64 0, .int .i64 0, .int .i64 0, .int .u16 0], .int .i64 0], []⟩ 8 (by kernel_rfl) (by kernel_rfl) (by kernel_rfl) (by kernel_rfl)) ?_
  intro W base args ds gs before hval0 hW hcnd _
  have hval : ∀ (j : Nat) t v, Try.f3.params[j]? = some t → args[j]? = some v → Value.okWide Try.prog W .any base t v := hval0
  have hW' := hW
  obtain ⟨p, q, hA0, hV, rfl, hfz, hnd⟩ := hW
  have hA : DataW.TrodAll enc Try.prog W 0 (fun _ => true) true Try.f3.params.toList args.toList ds p := hA0
  rw [Try.params3] at hA hval
  obtain ⟨v0, vs0, d0, ds0, p0, q0, hargs, rfl, rfl, h0, r0⟩ := trodAll_cons hA
  obtain ⟨v1, vs1, d1, ds1, p1, q1, rfl, rfl, rfl, h1, r1⟩ := trodAll_cons r0
  obtain ⟨rfl, rfl, rfl⟩ := trodAll_nil r1
  obtain rfl : args = #[v0, v1] := by cases args; simp_all
  obtain ⟨rfl, rfl⟩ := trodVars_none hV
  have hlt := hW'.lt
  have k0 := h0
  obtain ⟨rc0, e0, b0⟩ := open_rec (hval 0 25 v0 rfl rfl) h0
  subst e0
  have k1 := h1
  obtain ⟨a1, rfl, rfl, rfl, w1⟩ := open_int Try.underlying3 (hval 1 3 v1 rfl rfl) h1
  clear hA0 hval0
  refine (walk W rc0 b0 a1 w1).mono fun e W' ⟨he, hg⟩ => ?_
  subst he
  exact ⟨_, rfl, post_of_below hW' (fun _ _ _ => (trodAll_cons_mk (shut_bool Try.underlying4 _) trodAll_mk0)) (trodAll_cons_mk (Below.trod laidOut (by kernel_rfl) (of_decide_eq_true (by kernel_rfl)) k0 hg (fun x hx => by first | exact absurd hx (by simp) | exact hlt x (by simp [hx]))) (trodAll_cons_mk (Below.trod laidOut (by kernel_rfl) (of_decide_eq_true (by kernel_rfl)) k1 hg (fun x hx => by first | exact absurd hx (by simp) | exact hlt x (by simp [hx]))) trodAll_mk0)) rfl hg⟩

theorem over : Rows.recordWritesRow.holds Try.pinned (OpenSpec.ofChange Rows.recordWritesSpec) :=
  OpenClaim.holds_of_wide 3 Try.f3 rfl rfl rfl rfl rfl rfl rfl ⟨rfl, rfl, rfl, rfl, rfl⟩ rfl rfl rfl rfl rfl (by kernel_rfl) Try.func3 (by kernel_rfl)
    (of_decide_eq_true (by kernel_rfl)) (by unfold Func.isWrapper; first | (rw [if_pos (by decide +kernel)]; kernel_rfl) | (rw [if_neg (by decide +kernel)]; exact ⟨rfl, rfl⟩))
    (fun os started H enc _ => lifted os started H enc)
end RecordWritesL

theorem recordWrites_proved : Rows.RecordWritesSaid := RecordWritesL.over
#print axioms recordWrites_proved
end Go.Proofs.Ytjjaodlgnoiheaa
