/-
  Proved: of any samples the estimate is the document's, behind each, and how many were added; of no estimate nothing is told (the law JitterAdds answers true at every input).
  Conditions: none.
-/
import Derived.Test.YtnnfdmglohbgpaaRows
import Derived.Test.YtnnfdmglohbgpaaFr7
import Derived.Test.YtnnfdmglohbgpaaJi2
namespace Go.Proofs.Ytnnfdmglohbgpaa
open Go.ChangeShapes Go.WideShapes Go.ChangeAt Go.RowKit
set_option linter.unusedVariables false

namespace JitterAddsL
theorem own : ownKnob Try.prog.godebug = none := by kernel_rfl

set_option maxRecDepth 20000 in
set_option maxHeartbeats 8000000 in
theorem walk (w : World) (va : Value) (l : List Int) (hb : ∀ n ∈ l, -9223372036854775808 ≤ n ∧ n ≤ 9223372036854775807) (hl : RdI w va l) :
    Calls Try.prog 4 #[va] w fun e w' => e = .returned (.bool true) ∧ Below w.heap.size w w' := by
  obtain ⟨ao, cap, rfl, h1, h2, h3⟩ := hl
  have P3 : Hid _ := h3
  obtain ⟨m, hm⟩ : ∃ m, l.length = m := ⟨_, rfl⟩
  have HM : Hid (l.length = m) := hm
  rw [hm] at h1 P3
  rw [hm]
  have HB : Hid (∀ k, -9223372036854775808 ≤ l.getD k 0 ∧ l.getD k 0 ≤ 9223372036854775807) := fun k => getD_bd hb k
  have HE : Hid (∀ k, 0 ≤ estI l k 0 ∧ estI l k 0 ≤ 9223372036854775807) := fun k => estI_bd (fun x hx => (hb x hx).2) (by omega) (by omega) k
  clear hb h3 hm
  obtain ⟨H, hH⟩ : ∃ H, w.heap.size = H := ⟨_, rfl⟩
  have HH : Hid (w.heap.size = H) := hH
  go_enter Try.func4, Try.ntmps4
  go_wp2_with fail
  refine (jnew _).mono ?_; rintro e w2 ⟨rfl, x2, b2⟩
  rw [hH] at x2 b2
  rw [hH]
  have X2 : Hid (Blk w2 H [.int .i64 0, .int .i64 0]) := x2
  have B2 : Hid (Below H w w2) := b2
  clear x2 b2 hH
  go_wp2_with fail
  refine (ji_alive _).mono ?_; rintro e w3 ⟨rfl, rfl⟩
  go_wp2_with fail
  refine (jadd_nil 1 _).mono ?_; rintro e w3 ⟨rfl, rfl⟩
  go_wp2_with fail
  refine (jnow_nil _).mono ?_; rintro e w3 ⟨rfl, rfl⟩
  go_wp2_with fail
  refine (jcount_nil _).mono ?_; rintro e w3 ⟨rfl, rfl⟩
  go_wp2_with fail
  refine (jnow _ H 0 0 X2.out).mono ?_; rintro e w4 ⟨rfl, rfl⟩
  by_cases hbig : 500 < m
  · have d1 : decide ((500 : Int) < (m : Int)) = true := by simp; omega
    go_wp2_with fail
    refine (ji_alive _).mono ?_; rintro e w4 ⟨rfl, rfl⟩
    go_wp2_with fail
    go_ret
    exact ⟨rfl, by rw [HH.out]; exact B2.out⟩
  have d1 : decide ((500 : Int) < (m : Int)) = false := by simp; omega
  go_wp2_with fail
  go_loopg [5, 48] m (fun g x i wr => ∃ (k : Nat), k + g = m ∧ i = .int .i64 k ∧ x = .int .i64 (estI l k 0) ∧ Blk wr H [.int .i64 (estI l k 0), .int .i64 k] ∧ Below H w wr)
  case atStart => exact ⟨0, by omega, rfl, rfl, X2.out, B2.out⟩
  case round =>
    clear X2 B2
    obtain ⟨k, hk, rfl, rfl, hr, hbl⟩ := hrel
    have RR : Hid (Blk wr H [.int .i64 (estI l k 0), .int .i64 k]) := hr
    have BB : Hid (Below H w wr) := hbl
    clear hr hbl
    by_cases hlt : k < m
    · obtain ⟨b, o, rfl, hat⟩ := P3.out.resolve_left (by intro h; have := HM.out; rw [h] at this; simp at this; omega)
      have c0 := hat k hlt
      have hb0 : b < H := by have := World.block_lt_of_cell? w _ c0; have := HH.out; simp only at *; omega
      have e0 := (BB.out.cell (p := ⟨b, o + k, none⟩) hb0).trans c0
      have HX := HB.out k
      have HN := HE.out k
      have HS : Hid (estI l (k + 1) 0 = stepI (estI l k 0) (l.getD k 0)) := rfl
      obtain ⟨x, hx⟩ : ∃ x, l.getD k 0 = x := ⟨_, rfl⟩
      obtain ⟨n, hn⟩ : ∃ y, estI l k 0 = y := ⟨_, rfl⟩
      rw [hx] at e0 HX HS
      rw [hn] at HN HS RR
      rw [hn]
      clear c0 hat hx hn
      go_wp2_with fail
      refine (jref n x (by omega) HX _).mono ?_; rintro e w4 ⟨rfl, rfl⟩
      go_wp2_with fail
      refine (jadd _ H n k x (by omega) HX (by omega) RR.out).mono ?_; rintro e w5 ⟨rfl, r5, b5⟩
      rw [← HS.out] at r5 ⊢
      have R5 : Hid (Blk w5 H [.int .i64 (estI l (k + 1) 0), .int .i64 (k + 1)]) := r5
      have B5 : Hid (Below H w w5) := BB.out.trans b5
      clear r5 b5 RR BB HS
      go_wp2_with fail
      refine (jnow _ H _ _ R5.out).mono ?_; rintro e w6 ⟨rfl, rfl⟩
      go_wp2_with fail
      refine (jcount _ H _ _ R5.out).mono ?_; rintro e w6 ⟨rfl, rfl⟩
      go_wp2_with fail
      go_roundg (m - (k + 1))
      case measure => omega
      case rel => exact ⟨k + 1, by omega, by go_num, rfl, by first | exact R5.out | (have := R5.out; simpa using this), B5.out⟩
    · obtain rfl : k = m := by omega
      go_wp2_with fail
      go_ret
      exact ⟨rfl, by rw [HH.out]; exact BB.out⟩

set_option maxRecDepth 100000 in
theorem lifted (os : Os) (started : os.Started) (H : Type) (enc : TypeId × Value → H) :
    ReturnsInHanded {} Try.checked os 4 .any (Rows.jitterAddsSpec.pre6 enc Try.prog Try.f4 Rows.jitterAddsRow.domain false) (Rows.jitterAddsSpec.post enc Try.prog Try.f4 false true false false) := by
  refine returnsInHanded_of_change (C := Try.checked) own started (by kernel_rfl) Try.func4
    (ChangeSpec.witness6 (enc := enc) (C := Try.checked) false ⟨#[], #[.slice none 0 0], []⟩ 8 (by kernel_rfl) (by kernel_rfl) (by kernel_rfl) (by kernel_rfl)) ?_
  intro W base args ds gs before hval0 hW hcnd _
  have hval : ∀ (j : Nat) t v, Try.f4.params[j]? = some t → args[j]? = some v → Value.okWide Try.prog W .any base t v := hval0
  have hW' := hW
  obtain ⟨p, q, hA0, hV, rfl, hfz, hnd⟩ := hW
  have hA : DataW.TrodAll enc Try.prog W 0 (fun _ => true) true Try.f4.params.toList args.toList ds p := hA0
  rw [Try.params4] at hA hval
  obtain ⟨v0, vs0, d0, ds0, p0, q0, hargs, rfl, rfl, h0, r0⟩ := trodAll_cons hA
  obtain ⟨rfl, rfl, rfl⟩ := trodAll_nil r0
  obtain rfl : args = #[v0] := by cases args; simp_all
  obtain ⟨rfl, rfl⟩ := trodVars_none hV
  have hlt := hW'.lt
  have k0 := h0
  obtain ⟨l0, b0, e0⟩ := open_i64s (hval 0 25 v0 rfl rfl) h0
  clear hA0 hval0
  refine (walk W v0 l0 b0 e0).mono fun e W' ⟨he, hg⟩ => ?_
  subst he
  exact ⟨_, rfl, post_of_below hW' (fun _ _ _ => (trodAll_cons_mk (shut_bool Try.underlying4 _) trodAll_mk0)) (trodAll_cons_mk (Below.trod laidOut (by kernel_rfl) (of_decide_eq_true (by kernel_rfl)) k0 hg (fun x hx => by first | exact absurd hx (by simp) | exact hlt x (by simp [hx]))) trodAll_mk0) rfl hg⟩

theorem over : Rows.jitterAddsRow.holds Try.pinned (OpenSpec.ofChange Rows.jitterAddsSpec) :=
  OpenClaim.holds_of_wide 4 Try.f4 rfl rfl rfl rfl rfl rfl rfl ⟨rfl, rfl, rfl, rfl, rfl⟩ rfl rfl rfl rfl rfl (by kernel_rfl) Try.func4 (by kernel_rfl)
    (of_decide_eq_true (by kernel_rfl)) (by unfold Func.isWrapper; first | (rw [if_pos (by decide +kernel)]; kernel_rfl) | (rw [if_neg (by decide +kernel)]; exact ⟨rfl, rfl⟩))
    (fun os started H enc _ => lifted os started H enc)
end JitterAddsL

theorem jitterAdds_proved : Rows.JitterAddsSaid := JitterAddsL.over
#print axioms jitterAdds_proved
end Go.Proofs.Ytnnfdmglohbgpaa
