/-
  Proved: a ring of texts, and one of numbers, do the same by the same numbers (the law RingTypes answers true at every input).
  Conditions: none.
-/
import Derived.Test.YtfpngbeomgfmfaaRows
import Derived.Test.YtfpngbeomgfmfaaFr11
import Derived.Test.YtfpngbeomgfmfaaRg9
namespace Go.Proofs.Ytfpngbeomgfmfaa
open Go.ChangeShapes Go.WideShapes Go.ChangeAt Go.RowKit
set_option linter.unusedVariables false

namespace RingTypesL
theorem own : ownKnob Try.prog.godebug = none := by kernel_rfl

set_option maxRecDepth 20000 in
set_option maxHeartbeats 8000000 in
theorem walk (w : World) (n : Int) (hn : (Lit.int .i64 n).wf = true) (va : Value) (l : List Int) (hb : ∀ n ∈ l, -9223372036854775808 ≤ n ∧ n ≤ 9223372036854775807) (hl : RdI w va l) :
    Calls Try.prog 7 #[.int .i64 n, va] w fun e w' => e = .returned (.bool true) ∧ Below w.heap.size w w' := by
  obtain ⟨ao, cap, rfl, h1, h2, h3⟩ := hl
  have P3 : Hid _ := h3
  have HB : Hid (∀ n ∈ l, -9223372036854775808 ≤ n ∧ n ≤ 9223372036854775807) := hb
  obtain ⟨m, hm⟩ : ∃ m, l.length = m := ⟨_, rfl⟩
  have HM : Hid (l.length = m) := hm
  rw [hm] at h1 P3
  rw [hm]
  clear hn hb h3 hm
  obtain ⟨H, hH⟩ : ∃ H, w.heap.size = H := ⟨_, rfl⟩
  have HH : Hid (w.heap.size = H) := hH
  have hmo := most_bd n
  go_enter Try.func7, Try.ntmps7
  go_wp2_with fail
  refine (most_any _ _).mono ?_; rintro e w1 ⟨rfl, rfl⟩
  go_wp2_with fail
  refine (new_anyS _ _ hmo.1 hmo.2).mono ?_; rintro e w2 ⟨rfl, r2, b2, z2⟩
  rw [hH] at r2 b2 z2
  rw [hH]
  have R2 : Hid (RngV 77 w2 H H (.slice none 0 0) (emptyR (mostN n))) := r2
  have B2 : Hid (Below H w1 w2) := b2
  clear r2 b2 hH
  go_wp2_with fail
  refine (most_any _ _).mono ?_; rintro e w3 ⟨rfl, rfl⟩
  go_wp2_with fail
  refine (new_anyJ _ _ hmo.1 hmo.2).mono ?_; rintro e w4 ⟨rfl, r4, b4, z4⟩
  have R4 : Hid (RngV 77 w4 H H (.slice none 0 0) (emptyR (mostN n))) := R2.out.below b4
  have B4 : Hid (Below H w1 w4) := B2.out.trans (b4.mono (by omega))
  rw [z2] at r4 z4
  rw [z2]
  have S4 : Hid (RngV 92 w4 (H + 1) (H + 1) (.slice none 0 0) (emptyR (mostN n))) := r4
  have hz4 : H ≤ w4.heap.size := by omega
  clear r4 b4 z4 z2 R2 B2 hmo
  go_wp2_with fail
  refine (rg_alive _).mono ?_; rintro e w5 ⟨rfl, b5⟩
  have R5 : Hid (RngV 77 w5 H H (.slice none 0 0) (toX (.string ⟨#[120]⟩) (emptyR (mostN n)))) := R4.out.below b5
  have S5 : Hid (RngV 92 w5 (H + 1) (H + 1) (.slice none 0 0) (emptyR (mostN n))) := S4.out.below b5
  have B5 : Hid (Below H w1 w5) := B4.out.trans (b5.mono hz4)
  have hz5 : H ≤ w5.heap.size := Nat.le_trans hz4 b5.size
  clear R4 S4 B4 hz4 b5
  by_cases hbig : 200 < m
  · have d1 : decide ((200 : Int) < (m : Int)) = true := by simp; omega
    go_wp2_with fail
    refine (rg_alive _).mono ?_; rintro e w6 ⟨rfl, b6⟩
    have B6 : Hid (Below H w1 w6) := B5.out.trans (b6.mono hz5)
    clear b6
    go_wp2_with fail
    go_ret
    exact ⟨rfl, by rw [HH.out]; exact B6.out⟩
  have d1 : decide ((200 : Int) < (m : Int)) = false := by simp; omega
  go_wp2_with fail
  go_loopg [62] m (fun g i wr => ∃ (k : Nat) (v u : Value) (s : Rs), k + g = m ∧ i = .int .i64 k ∧ RngV 77 wr H H v (toX (.string ⟨#[120]⟩) s) ∧ RngV 92 wr (H + 1) (H + 1) u s ∧ Sep H v (H + 1) u ∧ Selfy s.L ∧ Below H w1 wr)
  case atStart => exact ⟨0, _, _, _, by omega, rfl, R5.out, S5.out, ⟨by omega, by simp [Value.ownBlock], by simp [Value.ownBlock], Or.inl rfl⟩, fun p hp => (by cases hp), B5.out⟩
  case round =>
    clear R5 S5 B5 hz5
    obtain ⟨k, v, u, s, hk, rfl, hr, hs, hse, hsf, hbl⟩ := hrel
    have RR : Hid (RngV 77 wr H H v (toX (.string ⟨#[120]⟩) s)) := hr
    have SS : Hid (RngV 92 wr (H + 1) (H + 1) u s) := hs
    have SE : Hid (Sep H v (H + 1) u) := hse
    have SF : Hid (Selfy s.L) := hsf
    have BB : Hid (Below H w1 wr) := hbl
    clear hr hs hse hsf hbl
    by_cases hlt : k < m
    · obtain ⟨b, o, rfl, hat⟩ := P3.out.resolve_left (by intro h; have := HM.out; rw [h] at this; simp at this; omega)
      have c0 := hat k hlt
      have hb0 : b < H := by have := World.block_lt_of_cell? w1 _ c0; have := HH.out; simp only at *; omega
      have e0 := (BB.out.cell (p := ⟨b, o + k, none⟩) hb0).trans c0
      have hx := HB.out (l.getD k 0) (by
        have e : l.getD k 0 = l[k]'(by rw [HM.out]; exact hlt) := by simp [List.getD, HM.out, hlt]
        rw [e]; exact List.getElem_mem _)
      obtain ⟨x, hxe⟩ : ∃ x, l.getD k 0 = x := ⟨_, rfl⟩
      rw [hxe] at e0 hx
      clear c0 hat hxe
      go_wp2_with fail
      refine (lay_anyS wr H H v _ RR.out x hx _).mono ?_; rintro e w6 ⟨rfl, v6, r6, c6⟩
      rw [layS_map _ (.int .i64 x)] at r6
      rw [layA_map]
      obtain ⟨s6, se6⟩ := SS.out.chg c6 SE.out
      have R6 : Hid (RngV 77 w6 H H v6 (toX (.string ⟨#[120]⟩) (layS s x (.int .i64 x)))) := r6
      have S6 : Hid (RngV 92 w6 (H + 1) (H + 1) u s) := s6
      have E6 : Hid (Sep H v6 (H + 1) u) := se6
      have B6 : Hid (Below H w1 w6) := BB.out.trans c6.below
      clear r6 s6 se6 c6 RR SS SE BB
      obtain ⟨⟨p1, p2, p3⟩, hp⟩ : ∃ p, layA s x = p := ⟨_, rfl⟩
      have HP : Hid (layA s x = (p1, p2, p3)) := hp
      rw [hp]
      clear hp
      go_wp2_with fail
      refine (lay_anyJ w6 (H + 1) (H + 1) u s S6.out x hx _).mono ?_; rintro e w7 ⟨rfl, u7, s7, c7⟩
      rw [HP.out]
      obtain ⟨r7, se7⟩ := R6.out.chg c7 E6.out.symm
      have R7 : Hid (RngV 77 w7 H H v6 (toX (.string ⟨#[120]⟩) (layS s x (.int .i64 x)))) := r7
      have S7 : Hid (RngV 92 w7 (H + 1) (H + 1) u7 (layS s x (.int .i64 x))) := s7
      have E7 : Hid (Sep H v6 (H + 1) u7) := se7.symm
      have B7 : Hid (Below H w1 w7) := B6.out.trans (c7.below.mono (by omega))
      have F7 : Hid (Selfy (layS s x (.int .i64 x)).L) := selfy_lay SF.out x
      clear r7 s7 se7 c7 R6 S6 E6 B6 SF HP
      have hll : (toX (.string ⟨#[120]⟩) (layS s x (.int .i64 x))).L.length = (layS s x (.int .i64 x)).L.length := by simp [toX]
      have HL : Hid _ := hll
      clear hll
      go_wp2_with fail
      refine (len_anyS w7 H H v6 _ R7.out).mono ?_; rintro e w8 ⟨rfl, rfl⟩
      rw [HL.out]
      go_wp2_with fail
      refine (len_anyJ w8 (H + 1) (H + 1) u7 _ S7.out).mono ?_; rintro e w9 ⟨rfl, rfl⟩
      go_wp2_with fail
      go_roundg (gk - 1)
      case measure => omega
      case rel => exact ⟨k + 1, _, _, _, by omega, by go_num, R7.out, S7.out, E7.out, F7.out, B7.out⟩
    · obtain rfl : k = m := by omega
      clear P3 HB HM hk hlt SE
      obtain ⟨N, hN⟩ : ∃ N, s.L.length = N := ⟨_, rfl⟩
      have HN : Hid (s.L.length = N) := hN
      have hN64 : N ≤ 64 := by have := SS.out.ok.len; have := SS.out.ok.most; omega
      clear hN
      go_wp2_with fail
      refine (len_anyJ wr (H + 1) (H + 1) u s SS.out).mono ?_; rintro e w6 ⟨rfl, rfl⟩
      rw [HN.out]
      go_wp2_with fail
      go_loopg [104] N (fun g i wr => ∃ (k : Nat), k + g = N ∧ i = .int .i64 k ∧ RngV 77 wr H H v (toX (.string ⟨#[120]⟩) s) ∧ RngV 92 wr (H + 1) (H + 1) u s ∧ Below H w1 wr)
      case atStart => exact ⟨0, by omega, rfl, RR.out, SS.out, BB.out⟩
      case round =>
        clear RR SS BB
        obtain ⟨q, hq, rfl, hr, hs, hbl⟩ := hrel
        have RR : Hid (RngV 77 wr H H v (toX (.string ⟨#[120]⟩) s)) := hr
        have SS : Hid (RngV 92 wr (H + 1) (H + 1) u s) := hs
        have BB : Hid (Below H w1 wr) := hbl
        clear hr hs hbl
        by_cases hlt : q < N
        · go_wp2_with fail
          refine (at_inJ wr (H + 1) (H + 1) u s SS.out q (by rw [HN.out]; exact hlt)).mono ?_; rintro e w7 ⟨rfl, qd, rfl⟩
          have R7 : Hid (RngV 77 (wr.drewN qd) H H v (toX (.string ⟨#[120]⟩) s)) := RR.out.drewN qd
          have S7 : Hid (RngV 92 (wr.drewN qd) (H + 1) (H + 1) u s) := SS.out.drewN qd
          have B7 : Hid (Below H w1 (wr.drewN qd)) := below_drewN BB.out qd
          clear RR SS BB
          generalize wr.drewN qd = w8 at R7 S7 B7 ⊢
          rw [selfy_at SF.out (by rw [HN.out]; exact hlt)]
          obtain ⟨y, hy⟩ : ∃ y, keyAt s.L q = y := ⟨_, rfl⟩
          have HY : Hid (keyAt s.L q = y) := hy
          rw [hy]
          clear hy
          go_wp2_with fail
          refine (at_inS w8 H H v _ R7.out q (by simp [toX]; rw [HN.out]; exact hlt)).mono ?_; rintro e w9 ⟨rfl, qe, rfl⟩
          have R9 : Hid (RngV 77 (w8.drewN qe) H H v (toX (.string ⟨#[120]⟩) s)) := R7.out.drewN qe
          have S9 : Hid (RngV 92 (w8.drewN qe) (H + 1) (H + 1) u s) := S7.out.drewN qe
          have B9 : Hid (Below H w1 (w8.drewN qe)) := below_drewN B7.out qe
          clear R7 S7 B7
          generalize w8.drewN qe = w10 at R9 S9 B9 ⊢
          have hk9 : keyAt (toX (.string ⟨#[120]⟩) s).L q = y := by
            show keyAt (s.L.map _) q = y
            rw [keyAt_map _ _ _ (by rw [HN.out]; exact hlt)]; exact HY.out
          have ht9 : thing (toX (.string ⟨#[120]⟩) s).L q = .string ⟨#[120]⟩ := thing_map _ _ _ (by rw [HN.out]; exact hlt)
          rw [hk9, ht9]
          clear hk9 ht9 HY
          go_wp2_with fail
          go_roundg (gk - 1)
          case measure => omega
          case rel => exact ⟨q + 1, by omega, by go_num, R9.out, S9.out, B9.out⟩
        · obtain rfl : q = N := by omega
          go_wp2_with fail
          go_ret
          exact ⟨rfl, by rw [HH.out]; exact BB.out⟩

set_option maxRecDepth 100000 in
theorem lifted (os : Os) (started : os.Started) (H : Type) (enc : TypeId × Value → H) :
    ReturnsInHanded {} Try.checked os 7 .any (Rows.ringTypesSpec.pre6 enc Try.prog Try.f7 Rows.ringTypesRow.domain false) (Rows.ringTypesSpec.post enc Try.prog Try.f7 false true false false) := by
  refine returnsInHanded_of_change (C := Try.checked) own started (by kernel_rfl) Try.func7
    (ChangeSpec.witness6 (enc := enc) (C := Try.checked) false ⟨#[], #[.int .i64 0, .slice none 0 0], []⟩ 8 (by kernel_rfl) (by kernel_rfl) (by kernel_rfl) (by kernel_rfl)) ?_
  intro W base args ds gs before hval0 hW hcnd _
  have hval : ∀ (j : Nat) t v, Try.f7.params[j]? = some t → args[j]? = some v → Value.okWide Try.prog W .any base t v := hval0
  have hW' := hW
  obtain ⟨p, q, hA0, hV, rfl, hfz, hnd⟩ := hW
  have hA : DataW.TrodAll enc Try.prog W 0 (fun _ => true) true Try.f7.params.toList args.toList ds p := hA0
  rw [Try.params7] at hA hval
  obtain ⟨v0, vs0, d0, ds0, p0, q0, hargs, rfl, rfl, h0, r0⟩ := trodAll_cons hA
  obtain ⟨v1, vs1, d1, ds1, p1, q1, rfl, rfl, rfl, h1, r1⟩ := trodAll_cons r0
  obtain ⟨rfl, rfl, rfl⟩ := trodAll_nil r1
  obtain rfl : args = #[v0, v1] := by cases args; simp_all
  obtain ⟨rfl, rfl⟩ := trodVars_none hV
  have hlt := hW'.lt
  have k0 := h0
  obtain ⟨a0, rfl, rfl, rfl, w0⟩ := open_int Try.underlying3 (hval 0 3 v0 rfl rfl) h0
  have k1 := h1
  obtain ⟨l1, b1, e1⟩ := open_i64s (hval 1 60 v1 rfl rfl) h1
  clear hA0 hval0
  refine (walk W a0 w0 v1 l1 b1 e1).mono fun e W' ⟨he, hg⟩ => ?_
  subst he
  exact ⟨_, rfl, post_of_below hW' (fun _ _ _ => (trodAll_cons_mk (shut_bool Try.underlying4 _) trodAll_mk0)) (trodAll_cons_mk (Below.trod laidOut (by kernel_rfl) (of_decide_eq_true (by kernel_rfl)) k0 hg (fun x hx => by first | exact absurd hx (by simp) | exact hlt x (by simp [hx]))) (trodAll_cons_mk (Below.trod laidOut (by kernel_rfl) (of_decide_eq_true (by kernel_rfl)) k1 hg (fun x hx => by first | exact absurd hx (by simp) | exact hlt x (by simp [hx]))) trodAll_mk0)) rfl hg⟩

theorem over : Rows.ringTypesRow.holds Try.pinned (OpenSpec.ofChange Rows.ringTypesSpec) :=
  OpenClaim.holds_of_wide 7 Try.f7 rfl rfl rfl rfl rfl rfl rfl ⟨rfl, rfl, rfl, rfl, rfl⟩ rfl rfl rfl rfl rfl (by kernel_rfl) Try.func7 (by kernel_rfl)
    (of_decide_eq_true (by kernel_rfl)) (by unfold Func.isWrapper; first | (rw [if_pos (by decide +kernel)]; kernel_rfl) | (rw [if_neg (by decide +kernel)]; exact ⟨rfl, rfl⟩))
    (fun os started H enc _ => lifted os started H enc)
end RingTypesL

theorem ringTypes_proved : Rows.RingTypesSaid := RingTypesL.over
#print axioms ringTypes_proved
end Go.Proofs.Ytfpngbeomgfmfaa
