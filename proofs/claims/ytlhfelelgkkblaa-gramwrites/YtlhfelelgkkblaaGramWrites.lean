/-
  Proved: of any datagram the bytes that Write makes are the document's own, or why there are none, and so is Check (the law GramWrites answers true at every input).
  Conditions: none.
-/
import Derived.Test.YtlhfelelgkkblaaRows
import Derived.Test.YtlhfelelgkkblaaP18
namespace Go.Proofs.Ytlhfelelgkkblaa
open Go.ChangeShapes Go.WideShapes Go.ChangeAt Go.RowKit
set_option linter.unusedVariables false

namespace GramWritesL
theorem own : ownKnob Try.prog.godebug = none := by kernel_rfl

set_option maxRecDepth 8000 in
set_option maxHeartbeats 4000000 in
theorem walk (w : World) (g : Gm) (ok : g.ok) (v : Value) (n : Nat) (A : Nat → Rc) (hA : ∀ i, i < n → (A i).ok) (hv : RdR w v n A) :
    Calls Try.prog 3 #[gmV g v] w fun e w' => e = .returned (.bool true) ∧ Below w.heap.size w w' := by
  have HW : Hid (∀ w', Below w.heap.size w w' → Calls Try.prog 10 #[gmV g v] w' fun e w'' => ∃ u, e = .returned (.tuple #[u, .int .i64 (wrtE g A n)]) ∧ Own w'' w'.heap.size u (wrtB g A n) ∧ Below w'.heap.size w' w'') := fun w' h => gm_write w' g ok v n A hA (hv.below h)
  have HD : Hid (∀ w', Below w.heap.size w w' → Calls Try.prog 11 #[gmV g v] w' fun e w'' => ∃ u, e = .returned (.tuple #[u, .int .i64 (wrtE g A n)]) ∧ Own w'' w'.heap.size u (wrtB g A n) ∧ Below w'.heap.size w' w'') := fun w' h => dg_write w' g ok v n A hA (hv.below h)
  have HC : Hid (∀ w', Below w.heap.size w w' → Calls Try.prog 12 #[gmV g v] w' fun e w'' => e = .returned (.int .i64 (gmE g A n)) ∧ Below w'.heap.size w' w'') := fun w' h => gm_checks w' g ok v n A hA (hv.below h)
  have HF : Hid (∀ w', Below w.heap.size w w' → Calls Try.prog 13 #[gmV g v] w' fun e w'' => e = .returned (.int .i64 (gmE g A n)) ∧ Below w'.heap.size w' w'') := fun w' h => dg_checks w' g ok v n A hA (hv.below h)
  obtain ⟨l, hll⟩ : ∃ l, wrtB g A n = l := ⟨_, rfl⟩
  obtain ⟨er, her⟩ : ∃ e, wrtE g A n = e := ⟨_, rfl⟩
  obtain ⟨c, hcc⟩ : ∃ c, gmE g A n = c := ⟨_, rfl⟩
  rw [hll, her] at HW HD
  rw [hcc] at HC HF
  clear hll her hcc hA ok
  obtain ⟨ao, cap, rfl, hc, hm, _⟩ := hv
  obtain ⟨t, m, b⟩ := g
  by_cases hn : 200 < n
  · go_enter Try.func3, Try.ntmps3
    go_wp2_with fail
    generalize hW : w.alloc (.cells #[.int .i64 t, .int .i64 m, .int .i64 b, .slice ao n cap] 24) = W0
    obtain ⟨A00, B00, Z0⟩ := boxed hW
    clear hW Z0
    refine (gm_alive _).mono ?_; rintro e' W1 ⟨rfl, bb⟩
    have B1 := bup B00 (Nat.le_refl _) bb
    go_wp2_with fail
    go_ret
    exact ⟨rfl, B1⟩
  go_enter Try.func3, Try.ntmps3
  go_wp2_with fail
  generalize hW : w.alloc (.cells #[.int .i64 t, .int .i64 m, .int .i64 b, .slice ao n cap] 24) = W0
  obtain ⟨A00, B00, Z0⟩ := boxed hW
  clear hW Z0
  obtain ⟨H, hH⟩ : ∃ H, w.heap.size = H := ⟨_, rfl⟩
  have HH : Hid (w.heap.size = H) := hH
  have hle : H ≤ w.heap.size := by omega
  rw [hH] at A00 B00 HW HD HC HF
  rw [hH]
  clear hH
  refine (HW.out _ B00).mono ?_; rintro e' W1 ⟨u1, rfl, own1, bb⟩
  have A1' := A00.below bb A00.lt
  have B1' := bup B00 hle bb
  have RR1 : Hid (Rd W1 u1 l) := own1.rd
  clear own1 A00 B00 bb
  have c0 := A1'.cell 0 _ rfl
  have c1 := A1'.cell 1 _ rfl
  have c2 := A1'.cell 2 _ rfl
  have c3 := A1'.cell 3 _ rfl
  have lt1 := A1'.lt
  go_wp2_with fail
  clear c0 c1 c2 c3 lt1
  refine (HD.out _ B1').mono ?_; rintro e' W2 ⟨u2, rfl, own2, bb⟩
  have A0 := A1'.below bb A1'.lt
  have B0 := bup B1' hle bb
  have R0_1 : Hid (Rd W2 u1 l) := RR1.out.below bb
  have R0_2 : Hid (Rd W2 u2 l) := own2.rd
  clear own2 A1' B1' bb RR1 HW HD
  obtain ⟨S, hS⟩ : ∃ S, strOfNums l = S := ⟨_, rfl⟩
  have HS : Hid (strOfNums l = S) := hS
  clear hS
  have y0_0 := A0.cell 0 _ rfl
  have y1_0 := A0.cell 1 _ rfl
  have y2_0 := A0.cell 2 _ rfl
  have y3_0 := A0.cell 3 _ rfl
  have p_0 : (convert 26 9 u1).run Try.prog W2 = .ok (.string S) W2 := (str_run R0_1.out).trans (by rw [HS.out])
  have q_0 : (convert 26 9 u2).run Try.prog W2 = .ok (.string S) W2 := (str_run R0_2.out).trans (by rw [HS.out])
  have p_0d : (convert 26 9 u1).run Try.prog W2.drew = .ok (.string S) W2.drew := (str_run (w := W2.drew) R0_1.out).trans (by rw [HS.out])
  have q_0d : (convert 26 9 u2).run Try.prog W2.drew = .ok (.string S) W2.drew := (str_run (w := W2.drew) R0_2.out).trans (by rw [HS.out])
  have lt0 := A0.lt
  go_wp2_with fail
  go_region_held3 (fun w' => w'.cell? ⟨H, 0, none⟩ = some (.int .i64 t) ∧ w'.cell? ⟨H, 1, none⟩ = some (.int .i64 m) ∧ w'.cell? ⟨H, 2, none⟩ = some (.int .i64 b) ∧ w'.cell? ⟨H, 3, none⟩ = some (.slice ao n cap) ∧ (convert 26 9 u1).run Try.prog w' = .ok (.string S) w' ∧ (convert 26 9 u2).run Try.prog w' = .ok (.string S) w') (first | with_reducible exact ⟨y0_3, y1_3, y2_3, y3_3, p_3, q_3⟩ | with_reducible exact ⟨y0_2, y1_2, y2_2, y3_2, p_2, q_2⟩ | with_reducible exact ⟨y0_1, y1_1, y2_1, y3_1, p_1, q_1⟩ | with_reducible exact ⟨y0_0, y1_0, y2_0, y3_0, p_0d, q_0d⟩ | with_reducible exact ⟨y0_0, y1_0, y2_0, y3_0, p_0, q_0⟩ | go_keep)
    (first
      | (go_at_call 9; (with_reducible refine (gm_alive _).mono ?_); rintro e' v1 ⟨rfl, bb⟩; have A1 := A0.drew.below bb A0.lt; have B1 := bup B0.drew hle bb; have R1_1 : Hid (Rd v1 u1 l) := Rd.below (w := W2.drew) R0_1.out bb; have R1_2 : Hid (Rd v1 u2 l) := Rd.below (w := W2.drew) R0_2.out bb; clear bb; have y0_1 := A1.cell 0 _ rfl; have y1_1 := A1.cell 1 _ rfl; have y2_1 := A1.cell 2 _ rfl; have y3_1 := A1.cell 3 _ rfl; have p_1 : (convert 26 9 u1).run Try.prog v1 = .ok (.string S) v1 := (str_run R1_1.out).trans (by rw [HS.out]); have q_1 : (convert 26 9 u2).run Try.prog v1 = .ok (.string S) v1 := (str_run R1_2.out).trans (by rw [HS.out]))
      | (go_at_call 12; (with_reducible refine (HC.out _ B1).mono ?_); rintro e' v2 ⟨rfl, bb⟩; have A2 := A1.below bb A1.lt; have B2 := bup B1 hle bb; have R2_1 : Hid (Rd v2 u1 l) := Rd.below (w := v1) R1_1.out bb; have R2_2 : Hid (Rd v2 u2 l) := Rd.below (w := v1) R1_2.out bb; clear bb; have y0_2 := A2.cell 0 _ rfl; have y1_2 := A2.cell 1 _ rfl; have y2_2 := A2.cell 2 _ rfl; have y3_2 := A2.cell 3 _ rfl; have p_2 : (convert 26 9 u1).run Try.prog v2 = .ok (.string S) v2 := (str_run R2_1.out).trans (by rw [HS.out]); have q_2 : (convert 26 9 u2).run Try.prog v2 = .ok (.string S) v2 := (str_run R2_2.out).trans (by rw [HS.out]))
      | (go_at_call 13; (with_reducible refine (HF.out _ B2).mono ?_); rintro e' v3 ⟨rfl, bb⟩; have A3 := A2.below bb A2.lt; have B3 := bup B2 hle bb; have R3_1 : Hid (Rd v3 u1 l) := Rd.below (w := v2) R2_1.out bb; have R3_2 : Hid (Rd v3 u2 l) := Rd.below (w := v2) R2_2.out bb; clear bb; have y0_3 := A3.cell 0 _ rfl; have y1_3 := A3.cell 1 _ rfl; have y2_3 := A3.cell 2 _ rfl; have y3_3 := A3.cell 3 _ rfl; have p_3 : (convert 26 9 u1).run Try.prog v3 = .ok (.string S) v3 := (str_run R3_1.out).trans (by rw [HS.out]); have q_3 : (convert 26 9 u2).run Try.prog v3 = .ok (.string S) v3 := (str_run R3_2.out).trans (by rw [HS.out])))
  go_wp2_with fail
  go_ret
  exact ⟨ret_bool (by simp), HH.out ▸ B3⟩

set_option maxRecDepth 100000 in
theorem lifted (os : Os) (started : os.Started) (H : Type) (enc : TypeId × Value → H) :
    ReturnsInHanded {} Try.checked os 3 .any (Rows.gramWritesSpec.pre6 enc Try.prog Try.f3 Rows.gramWritesRow.domain false) (Rows.gramWritesSpec.post enc Try.prog Try.f3 false true false false) := by
  refine returnsInHanded_of_change (C := Try.checked) own started (by kernel_rfl) Try.func3
    (ChangeSpec.witness6 (enc := enc) (C := Try.checked) false ⟨#[], #[.agg #[.int .i64 0, .int .i64 0, .int .i64 0, .slice none 0 0]], []⟩ 8 (by kernel_rfl) (by kernel_rfl) (by kernel_rfl) (by kernel_rfl)) ?_
  intro W base args ds gs before hval0 hW hcnd _
  have hval : ∀ (j : Nat) t v, Try.f3.params[j]? = some t → args[j]? = some v → Value.okWide Try.prog W .any base t v := hval0
  have hW' := hW
  obtain ⟨p, q, hA0, hV, rfl, hfz, hnd⟩ := hW
  have hA : DataW.TrodAll enc Try.prog W 0 (fun _ => true) true Try.f3.params.toList args.toList ds p := hA0
  rw [Try.params3] at hA hval
  obtain ⟨v0, vs0, d0, ds0, p0, q0, hargs, rfl, rfl, h0, r0⟩ := trodAll_cons hA
  obtain ⟨rfl, rfl, rfl⟩ := trodAll_nil r0
  obtain rfl : args = #[v0] := by cases args; simp_all
  obtain ⟨rfl, rfl⟩ := trodVars_none hV
  have hlt := hW'.lt
  have k0 := h0
  obtain ⟨g0, u0, n0, A0, e0, ok0, b0, rd0⟩ := open_gram (hval 0 24 v0 rfl rfl) h0
  subst e0
  clear hA0 hval0
  refine (walk W g0 ok0 u0 n0 A0 b0 rd0).mono fun e W' ⟨he, hg⟩ => ?_
  subst he
  exact ⟨_, rfl, post_of_below hW' (fun _ _ _ => (trodAll_cons_mk (shut_bool Try.underlying4 _) trodAll_mk0)) (trodAll_cons_mk (Below.trod laidOut (by kernel_rfl) (of_decide_eq_true (by kernel_rfl)) k0 hg (fun x hx => by first | exact absurd hx (by simp) | exact hlt x (by simp [hx]))) trodAll_mk0) rfl hg⟩

theorem over : Rows.gramWritesRow.holds Try.pinned (OpenSpec.ofChange Rows.gramWritesSpec) :=
  OpenClaim.holds_of_wide 3 Try.f3 rfl rfl rfl rfl rfl rfl rfl ⟨rfl, rfl, rfl, rfl, rfl⟩ rfl rfl rfl rfl rfl (by kernel_rfl) Try.func3 (by kernel_rfl)
    (of_decide_eq_true (by kernel_rfl)) (by unfold Func.isWrapper; first | (rw [if_pos (by decide +kernel)]; kernel_rfl) | (rw [if_neg (by decide +kernel)]; exact ⟨rfl, rfl⟩))
    (fun os started H enc _ => lifted os started H enc)
end GramWritesL

theorem gramWrites_proved : Rows.GramWritesSaid := GramWritesL.over
#print axioms gramWrites_proved
end Go.Proofs.Ytlhfelelgkkblaa
