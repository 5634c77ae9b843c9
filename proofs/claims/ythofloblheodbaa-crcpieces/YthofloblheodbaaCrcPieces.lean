/-
  Proved: in whatever pieces bytes are added, their sum is the same (the law CrcPieces answers true at every input).
  Conditions: none.
-/
import Derived.Test.YthofloblheodbaaRows
import Derived.Test.YthofloblheodbaaFr
import Derived.Test.YthofloblheodbaaCrc7
namespace Go.Proofs.Ythofloblheodbaa
open Go.ChangeShapes Go.WideShapes Go.ChangeAt Go.RowKit
set_option linter.unusedVariables false

namespace CrcPiecesL
theorem own : ownKnob Try.prog.godebug = none := by kernel_rfl

theorem cutTo {w : World} {ao : Option Addr} {n cap : Nat} {l : List Int} (h : Rd w (.slice ao n cap) l) (j : Nat) (hj : j ≤ n) : Rd w (.slice ao j cap) (l.take j) := by
  obtain ⟨ao', cap', e, h1, h2, h3, h4⟩ := h
  injection e with e1 e2 e3
  subst e1 e2 e3
  refine ⟨ao, cap, by rw [List.length_take, Nat.min_eq_left hj], by rw [List.length_take]; omega, h2, h3, ?_⟩
  rcases h4 with h | ⟨b, o, e, h⟩
  · left; rw [h]; simp
  · right; exact ⟨b, o, e, h.take j⟩
theorem cutFrom {w : World} {a : Addr} {n cap : Nat} {l : List Int} (h : Rd w (.slice (some a) n cap) l) (j : Nat) (hj : j ≤ n) : Rd w (.slice (if cap = j then some a else some (a.add j)) (n - j) (cap - j)) (l.drop j) := by
  obtain ⟨ao', cap', e, h1, h2, h3, h4⟩ := h
  injection e with e1 e2 e3
  subst e1 e2 e3
  refine ⟨_, cap - j, by rw [List.length_drop], by rw [List.length_drop]; omega, by omega, fun h => by split at h <;> simp at h, ?_⟩
  by_cases hz : cap = j
  · left; exact List.drop_of_length_le (by omega)
  · rw [if_neg hz]
    rcases h4 with h | ⟨b, o, e, h⟩
    · left; rw [h]; simp
    · injection e with e
      subst e
      right; exact ⟨b, o + j, by rw [Addr.add_lit], h.drop j⟩
theorem sum_take (l : List Int) (m j : Nat) : more (sum (l.take m)) ((l.drop m).take j) = sum (l.take (m + j)) := by
  rw [List.take_add, sum_append]
theorem sum_rest (l : List Int) (m : Nat) : more (sum (l.take m)) (l.drop m) = sum l := by
  rw [← sum_append, List.take_append_drop]
theorem drop_more (l : List Int) (m j : Nat) : (l.drop m).drop j = l.drop (m + j) := by rw [List.drop_drop]
set_option maxHeartbeats 1000000 in
theorem walk (w : World) (v : Value) (l : List Int) (hb : Bytes l) (h : Rd w v l) (v' : Value) (l' : List Int) (hb' : Bytes l') (h' : Rd w v' l') :
    Calls Try.prog 6 #[v, v'] w fun e w' => e = .returned (.bool true) ∧ Below w.heap.size w w' := by
  have HB : Hid (Bytes l) := hb
  have H : Hid (Rd w v l) := h
  have HB' : Hid (Bytes l') := hb'
  obtain ⟨ao, cap, rfl, hc, hm, -⟩ := h
  obtain ⟨n, hn⟩ : ∃ n, l.length = n := ⟨_, rfl⟩
  rw [hn] at hc H ⊢
  have HN := (show Hid _ from hn)
  obtain ⟨ao', cap', rfl, hc', hm', -, h3⟩ := h'
  have H3 := (show Hid _ from h3)
  obtain ⟨n', hn'⟩ : ∃ n, l'.length = n := ⟨_, rfl⟩
  rw [hn'] at hc' ⊢
  have HN' := (show Hid _ from hn')
  clear hb hb' h3 hn hn'
  by_cases hbig : 2000 < n ∨ 100 < n'
  · have hd : (decide (2000 < n) || decide (100 < n')) = true := by simp; exact hbig
    by_cases h1 : 2000 < n
    · go_enter Try.func6, Try.ntmps6
      go_wp2_with fail
      refine (alive_any _).mono ?_; rintro e w1 ⟨rfl, b1⟩
      go_wp2_with fail
      go_ret
      exact ⟨rfl, b1⟩
    · have h2 : 100 < n' := by omega
      go_enter Try.func6, Try.ntmps6
      go_wp2_with fail
      refine (alive_any _).mono ?_; rintro e w1 ⟨rfl, b1⟩
      go_wp2_with fail
      go_ret
      exact ⟨rfl, b1⟩
  · have q1 : ¬ 2000 < n := by omega
    have q2 : ¬ 100 < n' := by omega
    go_enter Try.func6, Try.ntmps6
    go_wp2_with fail
    go_loopw [22, 5, 6] (fun i x u wr => ∃ k m : Nat, k ≤ n' ∧ m ≤ n ∧ i = .int .i64 k ∧ x = .int .u32 ((sum (l.take m) : Nat) : Int) ∧ Rd wr u (l.drop m) ∧ Below w.heap.size w wr) (fun i _ _ _ => n' - (intOf i).toNat)
    case atStart => exact ⟨0, 0, Nat.zero_le _, Nat.zero_le _, rfl, by rw [List.take_zero, show sum [] = 0 from more_nil 0]; rfl, H.out, Below.refl _ _⟩
    case round =>
      obtain ⟨k, m, hk, hmn, rfl, rfl, hR, hbl⟩ := hrel
      obtain ⟨ao2, cap2, rfl, c1, c2, c3, c4⟩ := id hR
      have e1 : (l.drop m).length = n - m := by rw [List.length_drop, HN.out]
      rw [e1] at c1 hR ⊢
      have HR : Hid (Rd wr (.slice ao2 (n - m) cap2) (l.drop m)) := hR
      obtain ⟨p, hp⟩ : ∃ p, n - m = p := ⟨_, rfl⟩
      rw [hp] at c1 HR ⊢
      have HC4 := (show Hid _ from c4)
      have hsl := sum_lt (HB.out.take m)
      have HE1 := (show Hid _ from e1)
      clear hR c4 e1
      by_cases hlt : k < n'
      · have hl : l' ≠ [] := by intro h; rw [h] at HN'; have := HN'.out; simp at this; omega
        obtain ⟨b, o, rfl, hat⟩ := H3.out.resolve_left hl
        have hcell := hat k (by rw [HN'.out]; exact hlt)
        have hblt : b < w.heap.size := World.block_lt_of_cell? w _ hcell
        have hcell2 : wr.cell? ⟨b, o + k, none⟩ = some (.int .u8 (l'.getD k 0)) := (hbl.cell (p := ⟨b, o + k, none⟩) hblt).trans hcell
        have bx := HB'.out.at k
        obtain ⟨c, hcc⟩ : ∃ c, l'.getD k 0 = c := ⟨_, rfl⟩
        rw [hcc] at hcell2 bx
        clear hcc hcell hat hl
        rcases ao2 with _ | a2
        · have z := c3 rfl
          subst z
          have p0 : p = 0 := by omega
          subst p0
          have HT : Hid (Rd wr (.slice none 0 0) ((l.drop m).take 0)) := cutTo HR.out 0 (Nat.le_refl _)
          have BT : Hid (Bytes ((l.drop m).take 0)) := (HB.out.drop m).take 0
          have HM := (show Hid _ from sum_take l m 0)
          go_wp2_with fail
          refine (more_any _ (sum (l.take m)) hsl _ _ BT.out HT.out).mono ?_; rw [HM.out]; rintro e w1 ⟨rfl, b1⟩
          go_wp2_with fail
          go_roundw
          case rel => exact ⟨k + 1, m, by omega, hmn, by go_num, rfl, HR.out.below b1, bup hbl (Nat.le_refl _) b1⟩
          case measure => simp [intOf]; omega
        · obtain ⟨j, hj⟩ : ∃ j : Nat, c % ((p : Int) + 1) = (j : Int) := ⟨(c % ((p : Int) + 1)).toNat, by have := Int.emod_nonneg c (show (p : Int) + 1 ≠ 0 by omega); omega⟩
          have hjp : j ≤ p := by have := Int.emod_lt_of_pos c (show (0 : Int) < (p : Int) + 1 by omega); omega
          have hjc : (j : Int) ≤ (cap2 : Int) := by omega
          have hjl : (j : Int) ≤ (p : Int) := by omega
          have HT : Hid (Rd wr (.slice (some a2) j cap2) ((l.drop m).take j)) := cutTo HR.out j hjp
          have HF : Hid (Rd wr (.slice (if cap2 = j then some a2 else some (a2.add j)) (p - j) (cap2 - j)) ((l.drop m).drop j)) := cutFrom HR.out j hjp
          have BT : Hid (Bytes ((l.drop m).take j)) := (HB.out.drop m).take j
          have HM := (show Hid _ from sum_take l m j)
          have HD := (show Hid _ from drop_more l m j)
          go_wp2_with fail
          refine (more_any _ (sum (l.take m)) hsl _ _ BT.out HT.out).mono ?_; rw [HM.out]; rintro e w1 ⟨rfl, b1⟩
          go_wp2_with fail
          go_roundw
          case rel => exact ⟨k + 1, m + j, by omega, by omega, by go_num, rfl, by rw [← HD.out]; exact HF.out.below b1, bup hbl (Nat.le_refl _) b1⟩
          case measure => simp [intOf]; omega
      · have BD : Hid (Bytes (l.drop m)) := HB.out.drop m
        have HM := (show Hid _ from sum_rest l m)
        have H1 : Hid (Rd wr (.slice ao n cap) l) := H.out.below hbl
        go_wp2_with fail
        refine (alive_any _).mono ?_; rintro e w1 ⟨rfl, b1⟩
        have HR1 : Hid (Rd w1 _ (l.drop m)) := HR.out.below b1
        have H2 : Hid (Rd w1 (.slice ao n cap) l) := H1.out.below b1
        go_wp2_with fail
        refine (more_any _ (sum (l.take m)) hsl _ _ BD.out HR1.out).mono ?_; rw [HM.out]; rintro e w2 ⟨rfl, b2⟩
        have H3 : Hid (Rd w2 (.slice ao n cap) l) := H2.out.below b2
        go_wp2_with fail
        refine (sum_any _ _ l HB.out H3.out).mono ?_; rintro e w3 ⟨rfl, b3⟩
        go_wp2_with fail
        go_ret
        exact ⟨rfl, bup (bup (bup hbl (Nat.le_refl _) b1) (Nat.le_refl _) b2) (Nat.le_refl _) b3⟩

set_option maxRecDepth 100000 in
theorem lifted (os : Os) (started : os.Started) (H : Type) (enc : TypeId × Value → H) :
    ReturnsInHanded {} Try.checked os 6 .any (Rows.crcPiecesSpec.pre6 enc Try.prog Try.f6 Rows.crcPiecesRow.domain false) (Rows.crcPiecesSpec.post enc Try.prog Try.f6 false true false false) := by
  refine returnsInHanded_of_change (C := Try.checked) own started (by kernel_rfl) Try.func6
    (ChangeSpec.witness6 (enc := enc) (C := Try.checked) false ⟨#[], #[.slice none 0 0, .slice none 0 0], []⟩ 8 (by kernel_rfl) (by kernel_rfl) (by kernel_rfl) (by kernel_rfl)) ?_
  intro W base args ds gs before hval0 hW hcnd _
  have hval : ∀ (j : Nat) t v, Try.f6.params[j]? = some t → args[j]? = some v → Value.okWide Try.prog W .any base t v := hval0
  have hW' := hW
  obtain ⟨p, q, hA0, hV, rfl, hfz, hnd⟩ := hW
  have hA : DataW.TrodAll enc Try.prog W 0 (fun _ => true) true Try.f6.params.toList args.toList ds p := hA0
  rw [Try.params6] at hA hval
  obtain ⟨v0, vs0, d0, ds0, p0, q0, hargs, rfl, rfl, h0, r0⟩ := trodAll_cons hA
  obtain ⟨v1, vs1, d1, ds1, p1, q1, rfl, rfl, rfl, h1, r1⟩ := trodAll_cons r0
  obtain ⟨rfl, rfl, rfl⟩ := trodAll_nil r1
  obtain rfl : args = #[v0, v1] := by cases args; simp_all
  obtain ⟨rfl, rfl⟩ := trodVars_none hV
  have hlt := hW'.lt
  have k0 := h0
  obtain ⟨l0, b0, e0⟩ := open_u8s (hval 0 22 v0 rfl rfl) h0
  have k1 := h1
  obtain ⟨l1, b1, e1⟩ := open_u8s (hval 1 22 v1 rfl rfl) h1
  clear hA0 hval0
  refine (walk W v0 l0 b0 e0 v1 l1 b1 e1).mono fun e W' ⟨he, hg⟩ => ?_
  subst he
  exact ⟨_, rfl, post_of_below hW' (fun _ _ _ => (trodAll_cons_mk (shut_bool Try.underlying4 _) trodAll_mk0)) (trodAll_cons_mk (Below.trod laidOut (by kernel_rfl) (of_decide_eq_true (by kernel_rfl)) k0 hg (fun x hx => by first | exact absurd hx (by simp) | exact hlt x (by simp [hx]))) (trodAll_cons_mk (Below.trod laidOut (by kernel_rfl) (of_decide_eq_true (by kernel_rfl)) k1 hg (fun x hx => by first | exact absurd hx (by simp) | exact hlt x (by simp [hx]))) trodAll_mk0)) rfl hg⟩

theorem over : Rows.crcPiecesRow.holds Try.pinned (OpenSpec.ofChange Rows.crcPiecesSpec) :=
  OpenClaim.holds_of_wide 6 Try.f6 rfl rfl rfl rfl rfl rfl rfl ⟨rfl, rfl, rfl, rfl, rfl⟩ rfl rfl rfl rfl rfl (by kernel_rfl) Try.func6 (by kernel_rfl)
    (of_decide_eq_true (by kernel_rfl)) (by unfold Func.isWrapper; first | (rw [if_pos (by decide +kernel)]; kernel_rfl) | (rw [if_neg (by decide +kernel)]; exact ⟨rfl, rfl⟩))
    (fun os started H enc _ => lifted os started H enc)
end CrcPiecesL

theorem crcPieces_proved : Rows.CrcPiecesSaid := CrcPiecesL.over
#print axioms crcPieces_proved
end Go.Proofs.Ythofloblheodbaa
