/-
  Proved: an estimate is never below 0, nor above the greatest sample, nor, behind one, on the other side of that (the law JitterBounds answers true at every input).
  Conditions: none.
-/
import Derived.Test.YtnnfdmglohbgpaaRows
import Derived.Test.YtnnfdmglohbgpaaFr7
import Derived.Test.YtnnfdmglohbgpaaJi2
namespace Go.Proofs.Ytnnfdmglohbgpaa
open Go.ChangeShapes Go.WideShapes Go.ChangeAt Go.RowKit
set_option linter.unusedVariables false

namespace JitterBoundsL
theorem own : ownKnob Try.prog.godebug = none := by kernel_rfl

set_option maxRecDepth 20000 in
set_option maxHeartbeats 8000000 in
theorem walk (w : World) (va : Value) (l : List Int) (hb : ∀ n ∈ l, -9223372036854775808 ≤ n ∧ n ≤ 9223372036854775807) (hl : RdI w va l) :
    Calls Try.prog 5 #[va] w fun e w' => e = .returned (.bool true) ∧ Below w.heap.size w w' := by
  obtain ⟨ao, cap, rfl, h1, h2, h3⟩ := hl
  have P3 : Hid _ := h3
  obtain ⟨m, hm⟩ : ∃ m, l.length = m := ⟨_, rfl⟩
  have HM : Hid (l.length = m) := hm
  rw [hm] at h1 P3
  rw [hm]
  have HB : Hid (∀ k, -9223372036854775808 ≤ l.getD k 0 ∧ l.getD k 0 ≤ 9223372036854775807) := fun k => getD_bd hb k
  have HE : Hid (∀ k, 0 ≤ estI l k 0 ∧ estI l k 0 ≤ 9223372036854775807) := fun k => estI_bd (fun x hx => (hb x hx).2) (by omega) (by omega) k
  have HT : Hid (∀ k, estI l k 0 ≤ topI l k ∧ 0 ≤ topI l k ∧ topI l k ≤ 9223372036854775807) := fun k => ⟨est_top l k, topI_nn l k, topI_bd (fun x hx => (hb x hx).2) k⟩
  clear hb h3 hm
  obtain ⟨H, hH⟩ : ∃ H, w.heap.size = H := ⟨_, rfl⟩
  have HH : Hid (w.heap.size = H) := hH
  go_enter Try.func5, Try.ntmps5
  go_wp2_with fail
  refine (jnew _).mono ?_; rintro e w2 ⟨rfl, x2, b2⟩
  rw [hH] at x2 b2
  rw [hH]
  have X2 : Hid (Blk w2 H [.int .i64 0, .int .i64 0]) := x2
  have B2 : Hid (Below H w w2) := b2
  clear x2 b2 hH
  go_wp2_with fail
  refine (ji_alive _).mono ?_; rintro e w3 ⟨rfl, rfl⟩
  by_cases hbig : 500 < m
  · have d1 : decide ((500 : Int) < (m : Int)) = true := by simp; omega
    go_wp2_with fail
    refine (ji_alive _).mono ?_; rintro e w4 ⟨rfl, rfl⟩
    go_wp2_with fail
    go_ret
    exact ⟨rfl, by rw [HH.out]; exact B2.out⟩
  have d1 : decide ((500 : Int) < (m : Int)) = false := by simp; omega
  go_wp2_with fail
  go_loopg [4, 25] m (fun g x i wr => ∃ (k : Nat), k + g = m ∧ i = .int .i64 k ∧ x = .int .i64 (topI l k) ∧ Blk wr H [.int .i64 (estI l k 0), .int .i64 k] ∧ Below H w wr)
  case atStart => exact ⟨0, by omega, rfl, rfl, X2.out, B2.out⟩
  case round =>
    clear X2 B2
    obtain ⟨k, hk, rfl, rfl, hr, hbl⟩ := hrel
    have RR : Hid (Blk wr H [.int .i64 (estI l k 0), .int .i64 k]) := hr
    have BB : Hid (Below H w wr) := hbl
    clear hr hbl
    by_cases hlt : k < m
    · obtain ⟨b, o, rfl, hat⟩ := P3.out.resolve_left (by intro h; have := HM.out; rw [h] at this; simp at this; omega)
      have c0 := hat k hlt
      have hb0 : b < H := by have := World.block_lt_of_cell? w _ c0; have := HH.out; simp only at *; omega
      have e0 := (BB.out.cell (p := ⟨b, o + k, none⟩) hb0).trans c0
      have HX := HB.out k
      have HN := HE.out k
      have HS : Hid (estI l (k + 1) 0 = stepI (estI l k 0) (l.getD k 0)) := rfl
      have hbt := stepI_btw (estI l k 0) (l.getD k 0)
      rw [← HS.out] at hbt
      have hT0 := HT.out k
      have hT1 := HT.out (k + 1)
      have hTs : topI l (k + 1) = max (topI l k) (max 0 (l.getD k 0)) := rfl
      obtain ⟨x, hx⟩ : ∃ x, l.getD k 0 = x := ⟨_, rfl⟩
      obtain ⟨n, hn⟩ : ∃ y, estI l k 0 = y := ⟨_, rfl⟩
      obtain ⟨n1, hn1⟩ : ∃ y, estI l (k + 1) 0 = y := ⟨_, rfl⟩
      obtain ⟨t, ht⟩ : ∃ y, topI l k = y := ⟨_, rfl⟩
      obtain ⟨t1, ht1⟩ : ∃ y, topI l (k + 1) = y := ⟨_, rfl⟩
      rw [hx] at e0 HX HS hbt hTs
      rw [hn] at HN HS RR hbt hT0
      rw [hn1] at HS hbt hT1
      rw [ht] at hT0 hTs
      rw [ht1] at hT1 hTs
      rw [ht]
      have HC : Hid (t1 = max t (max 0 x) ∧ n1 ≤ t1 ∧ 0 ≤ t ∧ min n (max 0 x) ≤ n1 ∧ n1 ≤ max n (max 0 x) ∧ 0 ≤ n1) := by refine ⟨hTs, hT1.1, hT0.2.1, ?_, ?_, ?_⟩ <;> omega
      have HN1 : Hid (estI l (k + 1) 0 = n1) := hn1
      have HT1 : Hid (topI l (k + 1) = t1) := ht1
      clear c0 hat hx hn hn1 ht ht1 hbt hT0 hT1 hTs
      go_wp2_with fail
      refine (jnow _ H _ _ RR.out).mono ?_; rintro e w4 ⟨rfl, rfl⟩
      go_wp2_with fail
      refine (jadd _ H n k x (by omega) HX (by omega) RR.out).mono ?_; rintro e w5 ⟨rfl, r5, b5⟩
      rw [← HS.out] at r5
      have R5 : Hid (Blk w5 H [.int .i64 n1, .int .i64 (k + 1)]) := r5
      have B5 : Hid (Below H w w5) := BB.out.trans b5
      clear r5 b5 RR BB HS
      go_wp2_with fail
      refine (jnow _ H _ _ R5.out).mono ?_; rintro e w6 ⟨rfl, rfl⟩
      go_wp2_with fail
      all_goals first
        | (exfalso; have := HC.out; omega)
        | (go_roundg (m - (k + 1))
           case measure => omega
           case rel =>
             refine ⟨k + 1, by omega, by go_num, ?_, by rw [HN1.out]; exact R5.out, B5.out⟩
             rw [HT1.out]
             refine congrArg (Value.int .i64) ?_
             have := HC.out
             omega)
    · obtain rfl : k = m := by omega
      go_wp2_with fail
      go_ret
      exact ⟨rfl, by rw [HH.out]; exact BB.out⟩

set_option maxRecDepth 100000 in
theorem lifted (os : Os) (started : os.Started) (H : Type) (enc : TypeId × Value → H) :
    ReturnsInHanded {} Try.checked os 5 .any (Rows.jitterBoundsSpec.pre6 enc Try.prog Try.f5 Rows.jitterBoundsRow.domain false) (Rows.jitterBoundsSpec.post enc Try.prog Try.f5 false true false false) := by
  refine returnsInHanded_of_change (C := Try.checked) own started (by kernel_rfl) Try.func5
    (ChangeSpec.witness6 (enc := enc) (C := Try.checked) false ⟨#[], #[.slice none 0 0], []⟩ 8 (by kernel_rfl) (by kernel_rfl) (by kernel_rfl) (by kernel_rfl)) ?_
  intro W base args ds gs before hval0 hW hcnd _
  have hval : ∀ (j : Nat) t v, Try.f5.params[j]? = some t → args[j]? = some v → Value.okWide Try.prog W .any base t v := hval0
  have hW' := hW
  obtain ⟨p, q, hA0, hV, rfl, hfz, hnd⟩ := hW
  have hA : DataW.TrodAll enc Try.prog W 0 (fun _ => true) true Try.f5.params.toList args.toList ds p := hA0
  rw [Try.params5] at hA hval
  obtain ⟨v0, vs0, d0, ds0, p0, q0, hargs, rfl, rfl, h0, r0⟩ := trodAll_cons hA
  obtain ⟨rfl, rfl, rfl⟩ := trodAll_nil r0
  obtain rfl : args = #[v0] := by cases args; simp_all
  obtain ⟨rfl, rfl⟩ := trodVars_none hV
  have hlt := hW'.lt
  have k0 := h0
  obtain ⟨l0, b0, e0⟩ := open_i64s (hval 0 25 v0 rfl rfl) h0
  clear hA0 hval0
  refine (walk W v0 l0 b0 e0).mono fun e W' ⟨he, hg⟩ => ?_
  subst he
  exact ⟨_, rfl, post_of_below hW' (fun _ _ _ => (trodAll_cons_mk (shut_bool Try.underlying4 _) trodAll_mk0)) (trodAll_cons_mk (Below.trod laidOut (by kernel_rfl) (of_decide_eq_true (by kernel_rfl)) k0 hg (fun x hx => by first | exact absurd hx (by simp) | exact hlt x (by simp [hx]))) trodAll_mk0) rfl hg⟩

theorem over : Rows.jitterBoundsRow.holds Try.pinned (OpenSpec.ofChange Rows.jitterBoundsSpec) :=
  OpenClaim.holds_of_wide 5 Try.f5 rfl rfl rfl rfl rfl rfl rfl ⟨rfl, rfl, rfl, rfl, rfl⟩ rfl rfl rfl rfl rfl (by kernel_rfl) Try.func5 (by kernel_rfl)
    (of_decide_eq_true (by kernel_rfl)) (by unfold Func.isWrapper; first | (rw [if_pos (by decide +kernel)]; kernel_rfl) | (rw [if_neg (by decide +kernel)]; exact ⟨rfl, rfl⟩))
    (fun os started H enc _ => lifted os started H enc)
end JitterBoundsL

theorem jitterBounds_proved : Rows.JitterBoundsSaid := JitterBoundsL.over
#print axioms jitterBounds_proved
end Go.Proofs.Ytnnfdmglohbgpaa
