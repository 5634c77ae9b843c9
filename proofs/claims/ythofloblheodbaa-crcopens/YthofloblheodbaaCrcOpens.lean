/-
  Proved: of any bytes crc.Open answers what the document's own answer does: what is opened, or that nothing is (the law CrcOpens answers true at every input).
  Conditions: none.
-/
import Derived.Test.YthofloblheodbaaRows
import Derived.Test.YthofloblheodbaaFr
import Derived.Test.YthofloblheodbaaCrc7
namespace Go.Proofs.Ythofloblheodbaa
open Go.ChangeShapes Go.WideShapes Go.ChangeAt Go.RowKit
set_option linter.unusedVariables false

namespace CrcOpensL
theorem own : ownKnob Try.prog.godebug = none := by kernel_rfl

set_option maxHeartbeats 1000000 in
theorem walk (w : World) (v : Value) (l : List Int) (hb : Bytes l) (h : Rd w v l) :
    Calls Try.prog 4 #[v] w fun e w' => e = .returned (.bool true) ∧ Below w.heap.size w w' := by
  have HB : Hid (Bytes l) := hb
  have H : Hid (Rd w v l) := h
  obtain ⟨ao, cap, rfl, hc, hm, hz, h3⟩ := h
  obtain ⟨n, hn⟩ : ∃ n, l.length = n := ⟨_, rfl⟩
  rw [hn] at hc H ⊢
  have HN := (show Hid _ from hn)
  clear hb h3 hz hn
  by_cases hbig : 3000 < n
  · go_enter Try.func4, Try.ntmps4
    go_wp2_with fail
    refine (alive_any _).mono ?_; rintro e w1 ⟨rfl, b1⟩
    go_wp2_with fail
    go_ret
    exact ⟨rfl, b1⟩
  · obtain ⟨s, hs⟩ : ∃ s, strOfNums (opened l) = s := ⟨_, rfl⟩
    obtain ⟨q, hq⟩ : ∃ q, openB l = q := ⟨_, rfl⟩
    have HS := (show Hid _ from hs)
    have HQ := (show Hid _ from hq)
    clear hs hq
    go_enter Try.func4, Try.ntmps4
    go_wp2_with fail
    refine (open_any _ _ l HB.out H.out (by rw [HN.out]; omega)).mono ?_; rw [HQ.out]; rintro e w1 ⟨u1, rfl, own1, b1⟩
    have R1 : Hid (Rd w1 u1 (opened l)) := own1.rd
    have H1 : Hid (Rd w1 _ l) := H.out.below b1
    clear own1
    go_wp2_with fail
    refine (ropen_any _ _ l HB.out H1.out (by rw [HN.out]; omega)).mono ?_; rw [HQ.out]; rintro e w2 ⟨u2, rfl, own2, b2⟩
    have R2 : Hid (Rd w2 u2 (opened l)) := own2.rd
    have R1' : Hid (Rd w2 u1 (opened l)) := R1.out.below b2
    clear own2
    go_wp2_with fail
    refine (alive_any _).mono ?_; rintro e w3 ⟨rfl, b3⟩
    have s1 := str_run (R1'.out.below b3)
    have s2 := str_run (R2.out.below b3)
    rw [HS.out] at s1 s2
    go_wp2_with fail
    go_ret
    exact ⟨rfl, bthen (bthen b1 b2) b3⟩

set_option maxRecDepth 100000 in
theorem lifted (os : Os) (started : os.Started) (H : Type) (enc : TypeId × Value → H) :
    ReturnsInHanded {} Try.checked os 4 .any (Rows.crcOpensSpec.pre6 enc Try.prog Try.f4 Rows.crcOpensRow.domain false) (Rows.crcOpensSpec.post enc Try.prog Try.f4 false true false false) := by
  refine returnsInHanded_of_change (C := Try.checked) own started (by kernel_rfl) Try.func4
    (ChangeSpec.witness6 (enc := enc) (C := Try.checked) false ⟨#[], #[.slice none 0 0], []⟩ 8 (by kernel_rfl) (by kernel_rfl) (by kernel_rfl) (by kernel_rfl)) ?_
  intro W base args ds gs before hval0 hW hcnd _
  have hval : ∀ (j : Nat) t v, Try.f4.params[j]? = some t → args[j]? = some v → Value.okWide Try.prog W .any base t v := hval0
  have hW' := hW
  obtain ⟨p, q, hA0, hV, rfl, hfz, hnd⟩ := hW
  have hA : DataW.TrodAll enc Try.prog W 0 (fun _ => true) true Try.f4.params.toList args.toList ds p := hA0
  rw [Try.params4] at hA hval
  obtain ⟨v0, vs0, d0, ds0, p0, q0, hargs, rfl, rfl, h0, r0⟩ := trodAll_cons hA
  obtain ⟨rfl, rfl, rfl⟩ := trodAll_nil r0
  obtain rfl : args = #[v0] := by cases args; simp_all
  obtain ⟨rfl, rfl⟩ := trodVars_none hV
  have hlt := hW'.lt
  have k0 := h0
  obtain ⟨l0, b0, e0⟩ := open_u8s (hval 0 22 v0 rfl rfl) h0
  clear hA0 hval0
  refine (walk W v0 l0 b0 e0).mono fun e W' ⟨he, hg⟩ => ?_
  subst he
  exact ⟨_, rfl, post_of_below hW' (fun _ _ _ => (trodAll_cons_mk (shut_bool Try.underlying4 _) trodAll_mk0)) (trodAll_cons_mk (Below.trod laidOut (by kernel_rfl) (of_decide_eq_true (by kernel_rfl)) k0 hg (fun x hx => by first | exact absurd hx (by simp) | exact hlt x (by simp [hx]))) trodAll_mk0) rfl hg⟩

theorem over : Rows.crcOpensRow.holds Try.pinned (OpenSpec.ofChange Rows.crcOpensSpec) :=
  OpenClaim.holds_of_wide 4 Try.f4 rfl rfl rfl rfl rfl rfl rfl ⟨rfl, rfl, rfl, rfl, rfl⟩ rfl rfl rfl rfl rfl (by kernel_rfl) Try.func4 (by kernel_rfl)
    (of_decide_eq_true (by kernel_rfl)) (by unfold Func.isWrapper; first | (rw [if_pos (by decide +kernel)]; kernel_rfl) | (rw [if_neg (by decide +kernel)]; exact ⟨rfl, rfl⟩))
    (fun os started H enc _ => lifted os started H enc)
end CrcOpensL

theorem crcOpens_proved : Rows.CrcOpensSaid := CrcOpensL.over
#print axioms crcOpens_proved
end Go.Proofs.Ythofloblheodbaa
