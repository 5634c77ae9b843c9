/-
  Proved: of samples with the other sign the least is the greatest of these, and the other way about (the law WindowMirrors answers true at every input).
  Conditions: none.
-/
import Derived.Test.YthkffclligcdnaaRows
import Derived.Test.YthkffclligcdnaaFr13
import Derived.Test.YthkffclligcdnaaWn5
namespace Go.Proofs.Ythkffclligcdnaa
open Go.ChangeShapes Go.WideShapes Go.ChangeAt Go.RowKit
set_option linter.unusedVariables false

namespace WindowMirrorsL
theorem own : ownKnob Try.prog.godebug = none := by kernel_rfl

set_option maxRecDepth 20000 in
set_option maxHeartbeats 8000000 in
theorem walk (w : World) (n : Int) (hn : (Lit.int .i64 n).wf = true) (va : Value) (l : List Int) (hb : ∀ n ∈ l, -2147483648 ≤ n ∧ n ≤ 2147483647) (hl : RdI32 w va l) :
    Calls Try.prog 7 #[.int .i64 n, va] w fun e w' => e = .returned (.bool true) ∧ Below w.heap.size w w' := by
  obtain ⟨ao, cap, rfl, h1, h2, h3⟩ := hl
  have P3 : Hid _ := h3
  have HB : Hid (∀ n ∈ l, -2147483648 ≤ n ∧ n ≤ 2147483647) := hb
  obtain ⟨m, hm⟩ : ∃ m, l.length = m := ⟨_, rfl⟩
  have HM : Hid (l.length = m) := hm
  rw [hm] at h1 P3
  rw [hm]
  clear hn hb h3 hm
  obtain ⟨H, hH⟩ : ∃ H, w.heap.size = H := ⟨_, rfl⟩
  have HH : Hid (w.heap.size = H) := hH
  obtain ⟨hmo1, hmo2⟩ := most_bd n
  obtain ⟨M, hMe⟩ : ∃ M, mostN n = M := ⟨_, rfl⟩
  have HMO : Hid (∀ w', Calls Try.prog 10 #[.int .i64 n] w' fun e w'' => e = .returned (.int .i64 (M : Nat)) ∧ w'' = w') := fun w' => by have := most_any w' n; rw [hMe] at this; exact this
  rw [hMe] at hmo1 hmo2
  clear hMe
  go_enter Try.func7, Try.ntmps7
  go_wp2_with fail
  refine (HMO.out _).mono ?_; rintro e w1 ⟨rfl, rfl⟩
  go_wp2_with fail
  refine (wnew_anyJ _ M hmo1 hmo2).mono ?_; rintro e w2 ⟨rfl, r2, b2, z2⟩
  rw [hH] at r2 b2
  rw [hH]
  have hz2 : H < w2.heap.size := by omega
  go_wp2_with fail
  refine (HMO.out _).mono ?_; rintro e w3 ⟨rfl, rfl⟩
  go_wp2_with fail
  refine (wnew_anyJ _ M hmo1 hmo2).mono ?_; rintro e w4 ⟨rfl, r4, b4, z4⟩
  obtain ⟨S, hS⟩ : ∃ S, w3.heap.size = S := ⟨_, rfl⟩
  have T4 : Hid (Two 2 w4 H H S (.slice none 0 0) (.slice none 0 0) ⟨M, []⟩ ⟨M, []⟩) := ⟨r2.below b4, by rw [← hS]; exact r4.mono (by omega), by rw [← hS]; exact sep_none (by omega)⟩
  have B4 : Hid (Below H w1 w4) := b2.trans (b4.mono (by omega))
  have hz4 : H ≤ w4.heap.size := by omega
  have hHS : H < S := by omega
  rw [hS]
  clear r2 b2 z2 r4 b4 z4 hH hS hz2
  go_wp2_with fail
  refine (wn_alive _).mono ?_; rintro e w5 ⟨rfl, b5⟩
  have T5 : Hid (Two 2 w5 H H S (.slice none 0 0) (.slice none 0 0) ⟨M, []⟩ ⟨M, []⟩) := T4.out.below b5
  have B5 : Hid (Below H w1 w5) := B4.out.trans (b5.mono hz4)
  have hz5 : H ≤ w5.heap.size := Nat.le_trans hz4 b5.size
  clear T4 B4 hz4 b5
  by_cases hbig : 300 < m
  · have d1 : decide ((300 : Int) < (m : Int)) = true := by simp; omega
    go_wp2_with fail
    refine (wn_alive _).mono ?_; rintro e w6 ⟨rfl, b6⟩
    have B6 : Hid (Below H w1 w6) := B5.out.trans (b6.mono hz5)
    clear b6
    go_wp2_with fail
    go_ret
    exact ⟨rfl, by rw [HH.out]; exact B6.out⟩
  have d1 : decide ((300 : Int) < (m : Int)) = false := by simp; omega
  go_wp2_with fail
  go_loopg [57] m (fun g i wr => ∃ (k : Nat) (v u : Value), k + g = m ∧ i = .int .i64 k ∧ Two 2 wr H H S v u ⟨M, lastV M (l.map encI) k⟩ ⟨M, lastV M ((l.map fun x => -x).map encI) k⟩ ∧ Below H w1 wr)
  case atStart => exact ⟨0, _, _, by omega, rfl, by rw [lastV_zero, lastV_zero]; exact T5.out, B5.out⟩
  case round =>
    clear T5 B5 hz5
    obtain ⟨k, v, u, hk, rfl, hr, hbl⟩ := hrel
    have TR : Hid (Two 2 wr H H S v u ⟨M, lastV M (l.map encI) k⟩ ⟨M, lastV M ((l.map fun x => -x).map encI) k⟩) := hr
    have BB : Hid (Below H w1 wr) := hbl
    clear hr hbl
    by_cases hlt : k < m
    · obtain ⟨b, o, rfl, hat⟩ := P3.out.resolve_left (by intro h; have := HM.out; rw [h] at this; simp at this; omega)
      have c0 := hat k hlt
      have hb0 : b < H := by have := World.block_lt_of_cell? w1 _ c0; have := HH.out; simp only at *; omega
      have hkl : k < l.length := by rw [HM.out]; exact hlt
      have e0 := (BB.out.cell (p := ⟨b, o + k, none⟩) hb0).trans c0
      have hgx : l.getD k 0 = l[k]'hkl := by rw [List.getD_eq_getElem?_getD, List.getElem?_eq_getElem hkl]; rfl
      rw [hgx] at e0
      have hkL : k < (l.map encI).length := by simpa using hkl
      have hkN : k < ((l.map fun x => -x).map encI).length := by simpa using hkl
      have HX : Hid ((l.map encI)[k]'hkL = .int .i64 (l[k]'hkl)) := by show (l.map encI)[k]'hkL = _; simp [encI]
      have HXN : Hid (((l.map fun x => -x).map encI)[k]'hkN = .int .i64 (-(l[k]'hkl))) := by show ((l.map fun x => -x).map encI)[k]'hkN = _; simp [encI]
      have hx1 := HB.out _ (List.getElem_mem hkl)
      obtain ⟨x, hx⟩ : ∃ x, l[k]'hkl = x := ⟨_, rfl⟩
      rw [hx] at e0 HX HXN hx1
      have hN1 : Hid ((lastV M l (k + 1)) ≠ []) := lastV_ne hmo1 (by omega) (by omega)
      have hA := minI_mem hN1.out
      have hG := maxI_mem hN1.out
      have ha := HB.out _ (lastV_mem hA)
      have hg := HB.out _ (lastV_mem hG)
      have hag := min_max hN1.out
      obtain ⟨a, hae⟩ : ∃ y, minI (lastV M l (k + 1)) = y := ⟨_, rfl⟩
      obtain ⟨g, hge⟩ : ∃ y, maxI (lastV M l (k + 1)) = y := ⟨_, rfl⟩
      have HA : Hid (best ltI (lastV M (l.map encI) (k + 1)) = .int .i64 a) := by
        show best ltI (lastV M (l.map encI) (k + 1)) = _
        rw [lastV_map, best_min hN1.out, hae]
      have HG : Hid (best gtI (lastV M (l.map encI) (k + 1)) = .int .i64 g) := by
        show best gtI (lastV M (l.map encI) (k + 1)) = _
        rw [lastV_map, best_max hN1.out, hge]
      obtain ⟨c, hc⟩ : ∃ c, -g = c := ⟨_, rfl⟩
      obtain ⟨d, hd⟩ : ∃ d, -a = d := ⟨_, rfl⟩
      have hN2 : ((lastV M l (k + 1)).map fun x => -x) ≠ [] := by simpa using hN1.out
      have HC : Hid (best ltI (lastV M ((l.map fun x => -x).map encI) (k + 1)) = .int .i64 c) := by
        show best ltI (lastV M ((l.map fun x => -x).map encI) (k + 1)) = _
        rw [lastV_map, lastV_map, best_min hN2, minI_neg hN1.out, hge, hc]
      have HD : Hid (best gtI (lastV M ((l.map fun x => -x).map encI) (k + 1)) = .int .i64 d) := by
        show best gtI (lastV M ((l.map fun x => -x).map encI) (k + 1)) = _
        rw [lastV_map, lastV_map, best_max hN2, maxI_neg hN1.out, hae, hd]
      rw [hae] at ha hag
      rw [hge] at hg hag
      have IV : Hid (∀ k, IntsV (lastV M (l.map encI) k)) := fun k => by rw [lastV_map]; exact IntsV.enc _
      have IN : Hid (∀ k, IntsV (lastV M ((l.map fun x => -x).map encI) k)) := fun k => by rw [lastV_map]; exact IntsV.enc _
      have N1 : Hid ((lastV M (l.map encI) (k + 1)) ≠ []) := lastV_ne hmo1 (by simp; omega) (by omega)
      have N2 : Hid ((lastV M ((l.map fun x => -x).map encI) (k + 1)) ≠ []) := lastV_ne hmo1 (by simp; omega) (by omega)
      obtain ⟨y, hy⟩ : ∃ y, -x = y := ⟨_, rfl⟩
      rw [hy] at HXN
      have w1x : IntKind.i64.wrap x = x := by rw [IntKind.wrap_i64]; omega
      have w2x : IntKind.i64.wrap (-x) = y := by rw [IntKind.wrap_i64]; omega
      have w3x : IntKind.i64.wrap (-d) = a := by rw [IntKind.wrap_i64]; omega
      have w4x : IntKind.i64.wrap (-c) = g := by rw [IntKind.wrap_i64]; omega
      clear c0 hat hgx hx hae hge hN1 hN2 hA hG
      go_wp2_with fail
      refine (wadd_anyJ wr H H v _ TR.out.fst (IV.out k) x).mono ?_; rintro e w6 ⟨v6, rfl, r6, c6⟩
      have T6 : Hid (Two 2 w6 H H S v6 u ⟨M, lastV M (l.map encI) (k + 1)⟩ ⟨M, lastV M ((l.map fun x => -x).map encI) k⟩) := TR.out.addF c6 (win_next hmo1 hkL HX.out r6)
      have B6 : Hid (Below H w1 w6) := BB.out.trans c6.below
      clear r6 c6 TR BB
      go_wp2_with fail
      refine (wadd_anyJ w6 H S u _ T6.out.snd (IN.out k) y).mono ?_; rintro e w7 ⟨u7, rfl, r7, c7⟩
      have T7 : Hid (Two 2 w7 H H S v6 u7 ⟨M, lastV M (l.map encI) (k + 1)⟩ ⟨M, lastV M ((l.map fun x => -x).map encI) (k + 1)⟩) := T6.out.addS c7 (win_next hmo1 hkN HXN.out r7)
      have B7 : Hid (Below H w1 w7) := B6.out.trans c7.below
      clear r7 c7 T6 B6
      go_wp2_with fail
      refine (least_anyJ w7 H H _ _ T7.out.fst (IV.out _) N1.out).mono ?_; rintro e w8 ⟨rfl, q8, rfl⟩
      rw [HA.out]
      have T8 : Hid (Two 2 (w7.drewN q8) H H S v6 u7 ⟨M, lastV M (l.map encI) (k + 1)⟩ ⟨M, lastV M ((l.map fun x => -x).map encI) (k + 1)⟩) := T7.out.drewN q8
      have B8 : Hid (Below H w1 (w7.drewN q8)) := below_drewN B7.out q8
      clear T7 B7
      generalize w7.drewN q8 = w8 at T8 B8 ⊢
      go_wp2_with fail
      refine (greatest_anyJ w8 H H _ _ T8.out.fst (IV.out _) N1.out).mono ?_; rintro e w9 ⟨rfl, q9, rfl⟩
      rw [HG.out]
      have T9 : Hid (Two 2 (w8.drewN q9) H H S v6 u7 ⟨M, lastV M (l.map encI) (k + 1)⟩ ⟨M, lastV M ((l.map fun x => -x).map encI) (k + 1)⟩) := T8.out.drewN q9
      have B9 : Hid (Below H w1 (w8.drewN q9)) := below_drewN B8.out q9
      clear T8 B8
      generalize w8.drewN q9 = w9 at T9 B9 ⊢
      go_wp2_with fail
      refine (least_anyJ w9 H S _ _ T9.out.snd (IN.out _) N2.out).mono ?_; rintro e w10 ⟨rfl, q10, rfl⟩
      rw [HC.out]
      have T10 : Hid (Two 2 (w9.drewN q10) H H S v6 u7 ⟨M, lastV M (l.map encI) (k + 1)⟩ ⟨M, lastV M ((l.map fun x => -x).map encI) (k + 1)⟩) := T9.out.drewN q10
      have B10 : Hid (Below H w1 (w9.drewN q10)) := below_drewN B9.out q10
      clear T9 B9
      generalize w9.drewN q10 = w10 at T10 B10 ⊢
      go_wp2_with fail
      refine (greatest_anyJ w10 H S _ _ T10.out.snd (IN.out _) N2.out).mono ?_; rintro e w11 ⟨rfl, q11, rfl⟩
      rw [HD.out]
      have T11 : Hid (Two 2 (w10.drewN q11) H H S v6 u7 ⟨M, lastV M (l.map encI) (k + 1)⟩ ⟨M, lastV M ((l.map fun x => -x).map encI) (k + 1)⟩) := T10.out.drewN q11
      have B11 : Hid (Below H w1 (w10.drewN q11)) := below_drewN B10.out q11
      clear T10 B10
      generalize w10.drewN q11 = w11 at T11 B11 ⊢
      have f1 : decide (g < a) = false := by simp; omega
      go_wp2_with fail
      go_roundg (m - (k + 1))
      case measure => omega
      case rel => exact ⟨k + 1, _, _, by omega, by go_num, T11.out, B11.out⟩
    · obtain rfl : k = m := by omega
      have L1 : Hid ((lastV M (l.map encI) k).length = min k M) := lastV_len (by simp; rw [HM.out]; omega)
      have L2 : Hid ((lastV M ((l.map fun x => -x).map encI) k).length = min k M) := lastV_len (by simp; rw [HM.out]; omega)
      obtain ⟨N, hN⟩ : ∃ N, min k M = N := ⟨_, rfl⟩
      rw [hN] at L1 L2
      by_cases hkM : k < M
      · obtain rfl : k = N := by omega
        have f1 : decide ((k : Int) < (M : Int)) = true := by simp; omega
        have f2 : decide ((k : Int) ≤ (M : Int)) = true := by simp; omega
        have f3 : (k : Int) ≤ (M : Int) := by omega
        have f4 : min (k : Int) (M : Int) = (k : Int) := by omega
        go_wp2_with fail
        refine (wlen_anyJ wr H H v _ TR.out.fst).mono ?_; rintro e w6 ⟨rfl, rfl⟩
        rw [L1.out]
        go_wp2_with fail
        refine (wlen_anyJ w6 H S u _ TR.out.snd).mono ?_; rintro e w7 ⟨rfl, rfl⟩
        rw [L2.out]
        go_wp2_with fail
        refine (wlen_anyJ w7 H H v _ TR.out.fst).mono ?_; rintro e w8 ⟨rfl, rfl⟩
        rw [L1.out]
        go_wp2_with fail
        refine (HMO.out _).mono ?_; rintro e w9 ⟨rfl, rfl⟩
        go_wp2_with fail
        go_ret
        exact ⟨rfl, by rw [HH.out]; exact BB.out⟩
      · obtain rfl : M = N := by omega
        have f1 : decide ((k : Int) < (M : Int)) = false := by simp; omega
        have f4 : min (k : Int) (M : Int) = (M : Int) := by omega
        go_wp2_with fail
        refine (wlen_anyJ wr H H v _ TR.out.fst).mono ?_; rintro e w6 ⟨rfl, rfl⟩
        rw [L1.out]
        go_wp2_with fail
        refine (wlen_anyJ w6 H S u _ TR.out.snd).mono ?_; rintro e w7 ⟨rfl, rfl⟩
        rw [L2.out]
        go_wp2_with fail
        refine (wlen_anyJ w7 H H v _ TR.out.fst).mono ?_; rintro e w8 ⟨rfl, rfl⟩
        rw [L1.out]
        go_wp2_with fail
        refine (HMO.out _).mono ?_; rintro e w9 ⟨rfl, rfl⟩
        go_wp2_with fail
        go_ret
        exact ⟨rfl, by rw [HH.out]; exact BB.out⟩

set_option maxRecDepth 100000 in
theorem lifted (os : Os) (started : os.Started) (H : Type) (enc : TypeId × Value → H) :
    ReturnsInHanded {} Try.checked os 7 .any (Rows.windowMirrorsSpec.pre6 enc Try.prog Try.f7 Rows.windowMirrorsRow.domain false) (Rows.windowMirrorsSpec.post enc Try.prog Try.f7 false true false false) := by
  refine returnsInHanded_of_change (C := Try.checked) own started (by kernel_rfl) Try.func7
    (ChangeSpec.witness6 (enc := enc) (C := Try.checked) false ⟨#[], #[.int .i64 0, .slice none 0 0], []⟩ 8 (by kernel_rfl) (by kernel_rfl) (by kernel_rfl) (by kernel_rfl)) ?_
  intro W base args ds gs before hval0 hW hcnd _
  have hval : ∀ (j : Nat) t v, Try.f7.params[j]? = some t → args[j]? = some v → Value.okWide Try.prog W .any base t v := hval0
  have hW' := hW
  obtain ⟨p, q, hA0, hV, rfl, hfz, hnd⟩ := hW
  have hA : DataW.TrodAll enc Try.prog W 0 (fun _ => true) true Try.f7.params.toList args.toList ds p := hA0
  rw [Try.params7] at hA hval
  obtain ⟨v0, vs0, d0, ds0, p0, q0, hargs, rfl, rfl, h0, r0⟩ := trodAll_cons hA
  obtain ⟨v1, vs1, d1, ds1, p1, q1, rfl, rfl, rfl, h1, r1⟩ := trodAll_cons r0
  obtain ⟨rfl, rfl, rfl⟩ := trodAll_nil r1
  obtain rfl : args = #[v0, v1] := by cases args; simp_all
  obtain ⟨rfl, rfl⟩ := trodVars_none hV
  have hlt := hW'.lt
  have k0 := h0
  obtain ⟨a0, rfl, rfl, rfl, w0⟩ := open_int Try.underlying3 (hval 0 3 v0 rfl rfl) h0
  have k1 := h1
  obtain ⟨l1, b1, e1⟩ := open_i32s (hval 1 47 v1 rfl rfl) h1
  clear hA0 hval0
  refine (walk W a0 w0 v1 l1 b1 e1).mono fun e W' ⟨he, hg⟩ => ?_
  subst he
  exact ⟨_, rfl, post_of_below hW' (fun _ _ _ => (trodAll_cons_mk (shut_bool Try.underlying4 _) trodAll_mk0)) (trodAll_cons_mk (Below.trod laidOut (by kernel_rfl) (of_decide_eq_true (by kernel_rfl)) k0 hg (fun x hx => by first | exact absurd hx (by simp) | exact hlt x (by simp [hx]))) (trodAll_cons_mk (Below.trod laidOut (by kernel_rfl) (of_decide_eq_true (by kernel_rfl)) k1 hg (fun x hx => by first | exact absurd hx (by simp) | exact hlt x (by simp [hx]))) trodAll_mk0)) rfl hg⟩

theorem over : Rows.windowMirrorsRow.holds Try.pinned (OpenSpec.ofChange Rows.windowMirrorsSpec) :=
  OpenClaim.holds_of_wide 7 Try.f7 rfl rfl rfl rfl rfl rfl rfl ⟨rfl, rfl, rfl, rfl, rfl⟩ rfl rfl rfl rfl rfl (by kernel_rfl) Try.func7 (by kernel_rfl)
    (of_decide_eq_true (by kernel_rfl)) (by unfold Func.isWrapper; first | (rw [if_pos (by decide +kernel)]; kernel_rfl) | (rw [if_neg (by decide +kernel)]; exact ⟨rfl, rfl⟩))
    (fun os started H enc _ => lifted os started H enc)
end WindowMirrorsL

theorem windowMirrors_proved : Rows.WindowMirrorsSaid := WindowMirrorsL.over
#print axioms windowMirrors_proved
end Go.Proofs.Ythkffclligcdnaa
