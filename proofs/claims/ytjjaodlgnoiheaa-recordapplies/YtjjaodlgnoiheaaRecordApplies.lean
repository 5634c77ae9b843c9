/-
  Proved: of any two entities what is others is the document's own, and of any entity and record the one that is made, or why there is none (the law RecordApplies answers true at every input).
  Conditions: none.
-/
import Derived.Test.YtjjaodlgnoiheaaRows
import Derived.Test.YtjjaodlgnoiheaaFr8
import Derived.Test.YtjjaodlgnoiheaaRec10
import Derived.Test.YtjjaodlgnoiheaaRec8
namespace Go.Proofs.Ytjjaodlgnoiheaa
open Go.ChangeShapes Go.WideShapes Go.ChangeAt Go.RowKit
set_option linter.unusedVariables false

namespace RecordAppliesL
theorem own : ownKnob Try.prog.godebug = none := by kernel_rfl

attribute [local go_sem ↓] eqR_run eqE_run eq6_run
set_option maxRecDepth 8000 in
set_option maxHeartbeats 4000000 in
theorem walk (w : World) (a : En) (ha : a.ok) (b : En) (hb : b.ok) (r : Rc) (hr : r.ok) :
    Calls Try.prog 5 #[entV a, entV b, recV r] w fun e w' => e = .returned (.bool true) ∧ Below w.heap.size w w' := by
  clear ha hb hr
  go_enter Try.func5, Try.ntmps5
  go_wp2_with fail
  generalize hW : ((w.alloc (.cells (entA a) 49)).alloc (.cells (entA b) 49)).alloc (.cells (recA r) 25) = W0
  obtain ⟨A0, C0, R0, B0, Z0⟩ := boxed3 hW
  clear hW Z0
  obtain ⟨H, hH⟩ : ∃ H, w.heap.size = H := ⟨_, rfl⟩
  have HH : Hid (w.heap.size = H) := hH
  have hle : H ≤ w.heap.size := by omega
  rw [hH] at A0 C0 R0 B0
  rw [hH]
  clear hH
  obtain ⟨x, hx⟩ : ∃ x, difR a b = x := ⟨_, rfl⟩
  obtain ⟨q, hq⟩ : ∃ q, entB a b = q := ⟨_, rfl⟩
  obtain ⟨y, hy⟩ : ∃ y, appN a r = y := ⟨_, rfl⟩
  obtain ⟨er, her⟩ : ∃ er, appE a r = er := ⟨_, rfl⟩
  have HX : Hid (difR a b = x) := hx
  have HQ : Hid (entB a b = q) := hq
  have HY : Hid (appN a r = y) := hy
  have HE : Hid (appE a r = er) := her
  clear hx hq hy her
  refine (rec_diff _ a b).mono ?_; rw [HX.out, HQ.out]; rintro e W1 ⟨rfl, bb⟩
  have A1 := A0.below bb A0.lt
  have C1 := C0.below bb C0.lt
  have R1 := R0.below bb R0.lt
  have B1 := bup B0 hle bb
  clear A0 C0 R0 B0
  clear bb
  have cA0 := A1.cell 0 _ rfl
  have cA1 := A1.cell 1 _ rfl
  have cA2 := A1.cell 2 _ rfl
  have cA3 := A1.cell 3 _ rfl
  have cA4 := A1.cell 4 _ rfl
  have cA5 := A1.cell 5 _ rfl
  have cA6 := A1.cell 6 _ rfl
  have cA7 := A1.cell 7 _ rfl
  have cA8 := A1.cell 8 _ rfl
  have cC0 := C1.cell 0 _ rfl
  have cC1 := C1.cell 1 _ rfl
  have cC2 := C1.cell 2 _ rfl
  have cC3 := C1.cell 3 _ rfl
  have cC4 := C1.cell 4 _ rfl
  have cC5 := C1.cell 5 _ rfl
  have cC6 := C1.cell 6 _ rfl
  have cC7 := C1.cell 7 _ rfl
  have cC8 := C1.cell 8 _ rfl
  have lA := A1.lt
  have lC := C1.lt
  have lR := R1.lt
  go_wp2_with fail
  clear cA0 cA1 cA2 cA3 cA4 cA5 cA6 cA7 cA8 cC0 cC1 cC2 cC3 cC4 cC5 cC6 cC7 cC8 lA lC lR
  generalize hV : W1.alloc (.cells (recA x) 25) = W2
  obtain ⟨X2, bb, _⟩ := boxed hV
  clear hV
  have A2 := A1.below bb A1.lt
  have C2 := C1.below bb C1.lt
  have R2 := R1.below bb R1.lt
  have B2 := bup B1 hle bb
  clear A1 C1 R1 B1
  obtain ⟨MX, hMX⟩ : ∃ M, W1.heap.size = M := ⟨_, rfl⟩
  rw [hMX] at X2
  rw [hMX]
  clear bb hMX
  refine (doc_diff _ a b).mono ?_; rw [HX.out, HQ.out]; rintro e W3 ⟨rfl, bb⟩
  have A3 := A2.below bb A2.lt
  have C3 := C2.below bb C2.lt
  have R3 := R2.below bb R2.lt
  have X3 := X2.below bb X2.lt
  have B3 := bup B2 hle bb
  clear A2 C2 R2 X2 B2
  clear bb
  have cA0 := A3.cell 0 _ rfl
  have cA1 := A3.cell 1 _ rfl
  have cA2 := A3.cell 2 _ rfl
  have cA3 := A3.cell 3 _ rfl
  have cA4 := A3.cell 4 _ rfl
  have cA5 := A3.cell 5 _ rfl
  have cA6 := A3.cell 6 _ rfl
  have cA7 := A3.cell 7 _ rfl
  have cA8 := A3.cell 8 _ rfl
  have cR0 := R3.cell 0 _ rfl
  have cR1 := R3.cell 1 _ rfl
  have cR2 := R3.cell 2 _ rfl
  have cR3 := R3.cell 3 _ rfl
  have cR4 := R3.cell 4 _ rfl
  have cR5 := R3.cell 5 _ rfl
  have cR6 := R3.cell 6 _ rfl
  have cR7 := R3.cell 7 _ rfl
  have cR8 := R3.cell 8 _ rfl
  have lA := A3.lt
  have lC := C3.lt
  have lR := R3.lt
  have lX := X3.lt
  go_wp2_with fail
  clear cA0 cA1 cA2 cA3 cA4 cA5 cA6 cA7 cA8 cR0 cR1 cR2 cR3 cR4 cR5 cR6 cR7 cR8 lA lC lR lX
  generalize hV : W3.alloc (.cells (recA x) 25) = W4
  obtain ⟨Y4, bb, _⟩ := boxed hV
  clear hV
  have A4 := A3.below bb A3.lt
  have C4 := C3.below bb C3.lt
  have R4 := R3.below bb R3.lt
  have X4 := X3.below bb X3.lt
  have B4 := bup B3 hle bb
  clear A3 C3 R3 X3 B3
  obtain ⟨MY, hMY⟩ : ∃ M, W3.heap.size = M := ⟨_, rfl⟩
  rw [hMY] at Y4
  rw [hMY]
  clear bb hMY
  refine (rec_apply _ a r).mono ?_; rw [HY.out, HE.out]; rintro e W5 ⟨rfl, bb⟩
  have A5 := A4.below bb A4.lt
  have C5 := C4.below bb C4.lt
  have R5 := R4.below bb R4.lt
  have X5 := X4.below bb X4.lt
  have Y5 := Y4.below bb Y4.lt
  have B5 := bup B4 hle bb
  clear A4 C4 R4 X4 Y4 B4
  clear bb
  have cA0 := A5.cell 0 _ rfl
  have cA1 := A5.cell 1 _ rfl
  have cA2 := A5.cell 2 _ rfl
  have cA3 := A5.cell 3 _ rfl
  have cA4 := A5.cell 4 _ rfl
  have cA5 := A5.cell 5 _ rfl
  have cA6 := A5.cell 6 _ rfl
  have cA7 := A5.cell 7 _ rfl
  have cA8 := A5.cell 8 _ rfl
  have cR0 := R5.cell 0 _ rfl
  have cR1 := R5.cell 1 _ rfl
  have cR2 := R5.cell 2 _ rfl
  have cR3 := R5.cell 3 _ rfl
  have cR4 := R5.cell 4 _ rfl
  have cR5 := R5.cell 5 _ rfl
  have cR6 := R5.cell 6 _ rfl
  have cR7 := R5.cell 7 _ rfl
  have cR8 := R5.cell 8 _ rfl
  have lA := A5.lt
  have lC := C5.lt
  have lR := R5.lt
  have lX := X5.lt
  have lY := Y5.lt
  go_wp2_with fail
  clear cA0 cA1 cA2 cA3 cA4 cA5 cA6 cA7 cA8 cR0 cR1 cR2 cR3 cR4 cR5 cR6 cR7 cR8 lA lC lR lX lY
  generalize hV : W5.alloc (.cells (entA y) 49) = W6
  obtain ⟨P6, bb, _⟩ := boxed hV
  clear hV
  have A6 := A5.below bb A5.lt
  have C6 := C5.below bb C5.lt
  have R6 := R5.below bb R5.lt
  have X6 := X5.below bb X5.lt
  have Y6 := Y5.below bb Y5.lt
  have B6 := bup B5 hle bb
  clear A5 C5 R5 X5 Y5 B5
  obtain ⟨MP, hMP⟩ : ∃ M, W5.heap.size = M := ⟨_, rfl⟩
  rw [hMP] at P6
  rw [hMP]
  clear bb hMP
  refine (doc_apply _ a r).mono ?_; rw [HY.out, HE.out]; rintro e W7 ⟨rfl, bb⟩
  have A7 := A6.below bb A6.lt
  have C7 := C6.below bb C6.lt
  have R7 := R6.below bb R6.lt
  have X7 := X6.below bb X6.lt
  have Y7 := Y6.below bb Y6.lt
  have P7 := P6.below bb P6.lt
  have B7 := bup B6 hle bb
  clear A6 C6 R6 X6 Y6 P6 B6
  clear bb
  have lA := A7.lt
  have lC := C7.lt
  have lR := R7.lt
  have lX := X7.lt
  have lY := Y7.lt
  have lP := P7.lt
  go_wp2_with fail
  clear lA lC lR lX lY lP
  generalize hV : W7.alloc (.cells (entA y) 49) = W8
  obtain ⟨Q8, bb, _⟩ := boxed hV
  clear hV
  have A8 := A7.below bb A7.lt
  have C8 := C7.below bb C7.lt
  have R8 := R7.below bb R7.lt
  have X8 := X7.below bb X7.lt
  have Y8 := Y7.below bb Y7.lt
  have P8 := P7.below bb P7.lt
  have B8 := bup B7 hle bb
  clear A7 C7 R7 X7 Y7 P7 B7
  obtain ⟨MQ, hMQ⟩ : ∃ M, W7.heap.size = M := ⟨_, rfl⟩
  rw [hMQ] at Q8
  rw [hMQ]
  clear bb hMQ
  refine (rec_alive _).mono ?_; rintro e W9 ⟨rfl, bb⟩
  have A9 := A8.below bb A8.lt
  have C9 := C8.below bb C8.lt
  have R9 := R8.below bb R8.lt
  have X9 := X8.below bb X8.lt
  have Y9 := Y8.below bb Y8.lt
  have P9 := P8.below bb P8.lt
  have Q9 := Q8.below bb Q8.lt
  have B9 := bup B8 hle bb
  clear A8 C8 R8 X8 Y8 P8 Q8 B8
  clear bb
  have ex : recB x x = true := recB_same x
  have ey : entB y y = true := entB_same y
  have cX0 := X9.cell 0 _ rfl
  have cX1 := X9.cell 1 _ rfl
  have cX2 := X9.cell 2 _ rfl
  have cX3 := X9.cell 3 _ rfl
  have cX4 := X9.cell 4 _ rfl
  have cX5 := X9.cell 5 _ rfl
  have cX6 := X9.cell 6 _ rfl
  have cX7 := X9.cell 7 _ rfl
  have cX8 := X9.cell 8 _ rfl
  have cY0 := Y9.cell 0 _ rfl
  have cY1 := Y9.cell 1 _ rfl
  have cY2 := Y9.cell 2 _ rfl
  have cY3 := Y9.cell 3 _ rfl
  have cY4 := Y9.cell 4 _ rfl
  have cY5 := Y9.cell 5 _ rfl
  have cY6 := Y9.cell 6 _ rfl
  have cY7 := Y9.cell 7 _ rfl
  have cY8 := Y9.cell 8 _ rfl
  have cP0 := P9.cell 0 _ rfl
  have cP1 := P9.cell 1 _ rfl
  have cP2 := P9.cell 2 _ rfl
  have cP3 := P9.cell 3 _ rfl
  have cP4 := P9.cell 4 _ rfl
  have cP5 := P9.cell 5 _ rfl
  have cP6 := P9.cell 6 _ rfl
  have cP7 := P9.cell 7 _ rfl
  have cP8 := P9.cell 8 _ rfl
  have cQ0 := Q9.cell 0 _ rfl
  have cQ1 := Q9.cell 1 _ rfl
  have cQ2 := Q9.cell 2 _ rfl
  have cQ3 := Q9.cell 3 _ rfl
  have cQ4 := Q9.cell 4 _ rfl
  have cQ5 := Q9.cell 5 _ rfl
  have cQ6 := Q9.cell 6 _ rfl
  have cQ7 := Q9.cell 7 _ rfl
  have cQ8 := Q9.cell 8 _ rfl
  have lA := A9.lt
  have lC := C9.lt
  have lR := R9.lt
  have lX := X9.lt
  have lY := Y9.lt
  have lP := P9.lt
  have lQ := Q9.lt
  go_wp2_with fail
  go_ret
  exact ⟨ret_bool (by cases q <;> simp), HH.out ▸ B9⟩

set_option maxRecDepth 100000 in
theorem lifted (os : Os) (started : os.Started) (H : Type) (enc : TypeId × Value → H) :
    ReturnsInHanded {} Try.checked os 5 .any (Rows.recordAppliesSpec.pre6 enc Try.prog Try.f5 Rows.recordAppliesRow.domain false) (Rows.recordAppliesSpec.post enc Try.prog Try.f5 false true false false) := by
  refine returnsInHanded_of_change (C := Try.checked) own started (by kernel_rfl) Try.func5
    (ChangeSpec.witness6 (enc := enc) (C := Try.checked) false ⟨#[], #[.agg #[.int .i64 0, .int .i64 0, .int .i64 0, .int .i64 0, .int .i64 0, .int .i64 0, .int .i64 0, .int .u16 0, .int .u8 0], .agg #[.int .i64 0, .int .i64 0, .int .i64 0, .int .i64 0, .int .i64 0, .int .i64 0, .int .i64 0, .int .u16 0, .int .u8 0], .agg #[.int .i64 0, .int .i64 0, .int .i64 0, .int .i64 0, .int .i64 0, .int .i64 0, .int .i64 0, .int .i64 0, .int .u16 0]], []⟩ 8 (by kernel_rfl) (by kernel_rfl) (by kernel_rfl) (by kernel_rfl)) ?_
  intro W base args ds gs before hval0 hW hcnd _
  have hval : ∀ (j : Nat) t v, Try.f5.params[j]? = some t → args[j]? = some v → Value.okWide Try.prog W .any base t v := hval0
  have hW' := hW
  obtain ⟨p, q, hA0, hV, rfl, hfz, hnd⟩ := hW
  have hA : DataW.TrodAll enc Try.prog W 0 (fun _ => true) true Try.f5.params.toList args.toList ds p := hA0
  rw [Try.params5] at hA hval
  obtain ⟨v0, vs0, d0, ds0, p0, q0, hargs, rfl, rfl, h0, r0⟩ := trodAll_cons hA
  obtain ⟨v1, vs1, d1, ds1, p1, q1, rfl, rfl, rfl, h1, r1⟩ := trodAll_cons r0
  obtain ⟨v2, vs2, d2, ds2, p2, q2, rfl, rfl, rfl, h2, r2⟩ := trodAll_cons r1
  obtain ⟨rfl, rfl, rfl⟩ := trodAll_nil r2
  obtain rfl : args = #[v0, v1, v2] := by cases args; simp_all
  obtain ⟨rfl, rfl⟩ := trodVars_none hV
  have hlt := hW'.lt
  have k0 := h0
  obtain ⟨rc0, e0, b0⟩ := open_ent (hval 0 49 v0 rfl rfl) h0
  subst e0
  have k1 := h1
  obtain ⟨rc1, e1, b1⟩ := open_ent (hval 1 49 v1 rfl rfl) h1
  subst e1
  have k2 := h2
  obtain ⟨rc2, e2, b2⟩ := open_rec (hval 2 25 v2 rfl rfl) h2
  subst e2
  clear hA0 hval0
  refine (walk W rc0 b0 rc1 b1 rc2 b2).mono fun e W' ⟨he, hg⟩ => ?_
  subst he
  exact ⟨_, rfl, post_of_below hW' (fun _ _ _ => (trodAll_cons_mk (shut_bool Try.underlying4 _) trodAll_mk0)) (trodAll_cons_mk (Below.trod laidOut (by kernel_rfl) (of_decide_eq_true (by kernel_rfl)) k0 hg (fun x hx => by first | exact absurd hx (by simp) | exact hlt x (by simp [hx]))) (trodAll_cons_mk (Below.trod laidOut (by kernel_rfl) (of_decide_eq_true (by kernel_rfl)) k1 hg (fun x hx => by first | exact absurd hx (by simp) | exact hlt x (by simp [hx]))) (trodAll_cons_mk (Below.trod laidOut (by kernel_rfl) (of_decide_eq_true (by kernel_rfl)) k2 hg (fun x hx => by first | exact absurd hx (by simp) | exact hlt x (by simp [hx]))) trodAll_mk0))) rfl hg⟩

theorem over : Rows.recordAppliesRow.holds Try.pinned (OpenSpec.ofChange Rows.recordAppliesSpec) :=
  OpenClaim.holds_of_wide 5 Try.f5 rfl rfl rfl rfl rfl rfl rfl ⟨rfl, rfl, rfl, rfl, rfl⟩ rfl rfl rfl rfl rfl (by kernel_rfl) Try.func5 (by kernel_rfl)
    (of_decide_eq_true (by kernel_rfl)) (by unfold Func.isWrapper; first | (rw [if_pos (by decide +kernel)]; kernel_rfl) | (rw [if_neg (by decide +kernel)]; exact ⟨rfl, rfl⟩))
    (fun os started H enc _ => lifted os started H enc)
end RecordAppliesL

theorem recordApplies_proved : Rows.RecordAppliesSaid := RecordAppliesL.over
#print axioms recordApplies_proved
end Go.Proofs.Ytjjaodlgnoiheaa
