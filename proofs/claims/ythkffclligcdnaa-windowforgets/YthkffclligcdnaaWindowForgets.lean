/-
  Proved: behind as many samples as it looks at a window is as one that had these alone (the law WindowForgets answers true at every input).
  Conditions: none.
-/
import Derived.Test.YthkffclligcdnaaRows
import Derived.Test.YthkffclligcdnaaFr13
import Derived.Test.YthkffclligcdnaaWn5
namespace Go.Proofs.Ythkffclligcdnaa
open Go.ChangeShapes Go.WideShapes Go.ChangeAt Go.RowKit
set_option linter.unusedVariables false

namespace WindowForgetsL
theorem own : ownKnob Try.prog.godebug = none := by kernel_rfl

set_option maxRecDepth 20000 in
set_option maxHeartbeats 8000000 in
theorem walk (w : World) (n : Int) (hn : (Lit.int .i64 n).wf = true) (va : Value) (lb : List Int) (hb : ∀ n ∈ lb, -9223372036854775808 ≤ n ∧ n ≤ 9223372036854775807) (hlb : RdI w va lb) (vb : Value) (l : List Int) (hb' : ∀ n ∈ l, -9223372036854775808 ≤ n ∧ n ≤ 9223372036854775807) (hl : RdI w vb l) :
    Calls Try.prog 8 #[.int .i64 n, va, vb] w fun e w' => e = .returned (.bool true) ∧ Below w.heap.size w w' := by
  obtain ⟨ao, cap, rfl, h1, h2, h3⟩ := hlb
  obtain ⟨ao2, cap2, rfl, h12, h22, h32⟩ := hl
  have P3 : Hid _ := h3
  have Q3 : Hid _ := h32
  obtain ⟨mb, hmb⟩ : ∃ m, lb.length = m := ⟨_, rfl⟩
  obtain ⟨m, hm⟩ : ∃ m, l.length = m := ⟨_, rfl⟩
  have HMB : Hid (lb.length = mb) := hmb
  have HM : Hid (l.length = m) := hm
  rw [hmb] at h1 P3
  rw [hm] at h12 Q3
  rw [hm, hmb]
  clear hn hb hb' h3 h32 hm hmb
  obtain ⟨H, hH⟩ : ∃ H, w.heap.size = H := ⟨_, rfl⟩
  have HH : Hid (w.heap.size = H) := hH
  obtain ⟨hmo1, hmo2⟩ := most_bd n
  obtain ⟨M, hMe⟩ : ∃ M, mostN n = M := ⟨_, rfl⟩
  have HMO : Hid (∀ w', Calls Try.prog 10 #[.int .i64 n] w' fun e w'' => e = .returned (.int .i64 (M : Nat)) ∧ w'' = w') := fun w' => by have := most_any w' n; rw [hMe] at this; exact this
  rw [hMe] at hmo1 hmo2
  clear hMe
  go_enter Try.func8, Try.ntmps8
  go_wp2_with fail
  refine (HMO.out _).mono ?_; rintro e w1 ⟨rfl, rfl⟩
  go_wp2_with fail
  refine (wnew_anyJ _ M hmo1 hmo2).mono ?_; rintro e w2 ⟨rfl, r2, b2, z2⟩
  rw [hH] at r2 b2
  rw [hH]
  have hz2 : H < w2.heap.size := by omega
  go_wp2_with fail
  refine (HMO.out _).mono ?_; rintro e w3 ⟨rfl, rfl⟩
  go_wp2_with fail
  refine (wnew_anyJ _ M hmo1 hmo2).mono ?_; rintro e w4 ⟨rfl, r4, b4, z4⟩
  obtain ⟨S, hS⟩ : ∃ S, w3.heap.size = S := ⟨_, rfl⟩
  have T4 : Hid (Two 2 w4 H H S (.slice none 0 0) (.slice none 0 0) ⟨M, []⟩ ⟨M, []⟩) := ⟨r2.below b4, by rw [← hS]; exact r4.mono (by omega), by rw [← hS]; exact sep_none (by omega)⟩
  have B4 : Hid (Below H w1 w4) := b2.trans (b4.mono (by omega))
  have hz4 : H ≤ w4.heap.size := by omega
  have hHS : H < S := by omega
  rw [hS]
  clear r2 b2 z2 r4 b4 z4 hH hS hz2
  go_wp2_with fail
  refine (wn_alive _).mono ?_; rintro e w5 ⟨rfl, b5⟩
  have T5 : Hid (Two 2 w5 H H S (.slice none 0 0) (.slice none 0 0) ⟨M, []⟩ ⟨M, []⟩) := T4.out.below b5
  have B5 : Hid (Below H w1 w5) := B4.out.trans (b5.mono hz4)
  have hz5 : H ≤ w5.heap.size := Nat.le_trans hz4 b5.size
  clear T4 B4 hz4 b5
  by_cases hbig : 200 < mb
  · have d1 : decide ((200 : Int) < (mb : Int)) = true := by simp; omega
    go_wp2_with fail
    refine (wn_alive _).mono ?_; rintro e w6 ⟨rfl, b6⟩
    have B6 : Hid (Below H w1 w6) := B5.out.trans (b6.mono hz5)
    clear b6
    go_wp2_with fail
    go_ret
    exact ⟨rfl, by rw [HH.out]; exact B6.out⟩
  have d1 : decide ((200 : Int) < (mb : Int)) = false := by simp; omega
  by_cases hbig2 : 200 < m
  · have d2 : decide ((200 : Int) < (m : Int)) = true := by simp; omega
    go_wp2_with fail
    refine (wn_alive _).mono ?_; rintro e w6 ⟨rfl, b6⟩
    have B6 : Hid (Below H w1 w6) := B5.out.trans (b6.mono hz5)
    clear b6
    go_wp2_with fail
    go_ret
    exact ⟨rfl, by rw [HH.out]; exact B6.out⟩
  have d2 : decide ((200 : Int) < (m : Int)) = false := by simp; omega
  go_wp2_with fail
  go_loopg [66] mb (fun g i wr => ∃ (k : Nat) (v : Value), k + g = mb ∧ i = .int .i64 k ∧ Two 2 wr H H S v (.slice none 0 0) ⟨M, lastV M ((lb ++ l).map encI) k⟩ ⟨M, []⟩ ∧ Below H w1 wr)
  case atStart => exact ⟨0, _, by omega, rfl, by rw [lastV_zero]; exact T5.out, B5.out⟩
  case round =>
    clear T5 B5 hz5
    obtain ⟨k, v, hk, rfl, hr, hbl⟩ := hrel
    have TR : Hid (Two 2 wr H H S v (.slice none 0 0) ⟨M, lastV M ((lb ++ l).map encI) k⟩ ⟨M, []⟩) := hr
    have BB : Hid (Below H w1 wr) := hbl
    clear hr hbl
    by_cases hlt : k < mb
    · obtain ⟨b, o, rfl, hat⟩ := P3.out.resolve_left (by intro h; have := HMB.out; rw [h] at this; simp at this; omega)
      have c0 := hat k hlt
      have hb0 : b < H := by have := World.block_lt_of_cell? w1 _ c0; have := HH.out; simp only at *; omega
      have hkl : k < lb.length := by rw [HMB.out]; exact hlt
      have e0 := (BB.out.cell (p := ⟨b, o + k, none⟩) hb0).trans c0
      have hgx : lb.getD k 0 = lb[k]'hkl := by rw [List.getD_eq_getElem?_getD, List.getElem?_eq_getElem hkl]; rfl
      rw [hgx] at e0
      have hkL : k < ((lb ++ l).map encI).length := by simp; omega
      have HX : Hid (((lb ++ l).map encI)[k]'hkL = .int .i64 (lb[k]'hkl)) := by show ((lb ++ l).map encI)[k]'hkL = _; rw [List.getElem_map, List.getElem_append_left hkl]; rfl
      have IV : Hid (∀ k, IntsV (lastV M ((lb ++ l).map encI) k)) := fun k => by rw [lastV_map]; exact IntsV.enc _
      obtain ⟨x, hx⟩ : ∃ x, lb[k]'hkl = x := ⟨_, rfl⟩
      rw [hx] at e0 HX
      clear c0 hat hgx hx
      go_wp2_with fail
      refine (wadd_anyJ wr H H v _ TR.out.fst (IV.out k) x).mono ?_; rintro e w6 ⟨v6, rfl, r6, c6⟩
      have T6 : Hid (Two 2 w6 H H S v6 (.slice none 0 0) ⟨M, lastV M ((lb ++ l).map encI) (k + 1)⟩ ⟨M, []⟩) := TR.out.addF c6 (win_next hmo1 hkL HX.out r6)
      have B6 : Hid (Below H w1 w6) := BB.out.trans c6.below
      clear r6 c6 TR BB
      go_wp2_with fail
      go_roundg (mb - (k + 1))
      case measure => omega
      case rel => exact ⟨k + 1, _, by omega, by go_num, T6.out, B6.out⟩
    · obtain rfl : k = mb := by omega
      go_wp2_with fail
      go_loopg [76] m (fun g i wr => ∃ (j : Nat) (v u : Value), j + g = m ∧ i = .int .i64 j ∧ Two 2 wr H H S v u ⟨M, lastV M ((lb ++ l).map encI) (lb.length + j)⟩ ⟨M, lastV M (l.map encI) j⟩ ∧ Below H w1 wr)
      case atStart => exact ⟨0, _, _, by omega, rfl, by rw [lastV_zero, Nat.add_zero, HMB.out]; exact TR.out, BB.out⟩
      case round =>
        clear TR BB
        obtain ⟨j, v, u, hj, rfl, hr, hbl⟩ := hrel
        have TR : Hid (Two 2 wr H H S v u ⟨M, lastV M ((lb ++ l).map encI) (lb.length + j)⟩ ⟨M, lastV M (l.map encI) j⟩) := hr
        have BB : Hid (Below H w1 wr) := hbl
        clear hr hbl
        by_cases hjm : j < m
        · obtain ⟨b, o, rfl, hat⟩ := Q3.out.resolve_left (by intro h; have := HM.out; rw [h] at this; simp at this; omega)
          have c0 := hat j hjm
          have hb0 : b < H := by have := World.block_lt_of_cell? w1 _ c0; have := HH.out; simp only at *; omega
          have hkl : j < l.length := by rw [HM.out]; exact hjm
          have e0 := (BB.out.cell (p := ⟨b, o + j, none⟩) hb0).trans c0
          have hgx : l.getD j 0 = l[j]'hkl := by rw [List.getD_eq_getElem?_getD, List.getElem?_eq_getElem hkl]; rfl
          rw [hgx] at e0
          have hkL : lb.length + j < ((lb ++ l).map encI).length := by simp; omega
          have hkR : j < (l.map encI).length := by simp; omega
          have HX : Hid (((lb ++ l).map encI)[lb.length + j]'hkL = .int .i64 (l[j]'hkl)) := by show ((lb ++ l).map encI)[lb.length + j]'hkL = _; simp [encI]
          have HXR : Hid ((l.map encI)[j]'hkR = .int .i64 (l[j]'hkl)) := by show (l.map encI)[j]'hkR = _; simp [encI]
          have IV : Hid (∀ k, IntsV (lastV M ((lb ++ l).map encI) k)) := fun k => by rw [lastV_map]; exact IntsV.enc _
          have IR : Hid (∀ k, IntsV (lastV M (l.map encI) k)) := fun k => by rw [lastV_map]; exact IntsV.enc _
          have HSAME : Hid (M ≤ j + 1 → lastV M ((lb ++ l).map encI) (lb.length + (j + 1)) = lastV M (l.map encI) (j + 1)) := fun h => by
            rw [lastV_map, lastV_behind lb l (by omega) h, lastV_map]
          have N1 : Hid (lastV M (l.map encI) (j + 1) ≠ []) := lastV_ne hmo1 (by simp; omega) (by omega)
          have HLEN : Hid ((lastV M (l.map encI) (j + 1)).length = min (j + 1) M) := lastV_len (by simp; omega)
          have IB : Hid (∃ y, best ltI (lastV M (l.map encI) (j + 1)) = .int .i64 y) := best_mem_int (IR.out _) N1.out
          have IG : Hid (∃ y, best gtI (lastV M (l.map encI) (j + 1)) = .int .i64 y) := best_mem_int (IR.out _) N1.out
          obtain ⟨x, hx⟩ : ∃ x, l[j]'hkl = x := ⟨_, rfl⟩
          rw [hx] at e0 HX HXR
          clear c0 hat hgx hx
          go_wp2_with fail
          refine (wadd_anyJ wr H H v _ TR.out.fst (IV.out _) x).mono ?_; rintro e w6 ⟨v6, rfl, r6, c6⟩
          have T6 : Hid (Two 2 w6 H H S v6 u ⟨M, lastV M ((lb ++ l).map encI) (lb.length + (j + 1))⟩ ⟨M, lastV M (l.map encI) j⟩) := TR.out.addF c6 (win_next hmo1 hkL HX.out r6)
          have B6 : Hid (Below H w1 w6) := BB.out.trans c6.below
          clear r6 c6 TR BB
          go_wp2_with fail
          refine (wadd_anyJ w6 H S u _ T6.out.snd (IR.out j) x).mono ?_; rintro e w7 ⟨u7, rfl, r7, c7⟩
          have T7 : Hid (Two 2 w7 H H S v6 u7 ⟨M, lastV M ((lb ++ l).map encI) (lb.length + (j + 1))⟩ ⟨M, lastV M (l.map encI) (j + 1)⟩) := T6.out.addS c7 (win_next hmo1 hkR HXR.out r7)
          have B7 : Hid (Below H w1 w7) := B6.out.trans c7.below
          clear r7 c7 T6 B6
          go_wp2_with fail
          refine (HMO.out _).mono ?_; rintro e w7' ⟨rfl, rfl⟩
          by_cases hfew : j + 1 < M
          · have f1 : decide ((j : Int) + 1 < (M : Int)) = true := by simp; omega
            have f2 : (j : Int) + 1 < (M : Int) := by omega
            have f3 : j + 1 < M := by omega
            go_wp2_with fail
            go_roundg (m - (j + 1))
            case measure => omega
            case rel => exact ⟨j + 1, _, _, by omega, by go_num, T7.out, B7.out⟩
          · have f1 : decide ((j : Int) + 1 < (M : Int)) = false := by simp; omega
            have f2 : ¬ (j : Int) + 1 < (M : Int) := by omega
            have f3 : ¬ j + 1 < M := by omega
            have hs := HSAME.out (by omega)
            have T8 : Hid (Two 2 w7' H H S v6 u7 ⟨M, lastV M (l.map encI) (j + 1)⟩ ⟨M, lastV M (l.map encI) (j + 1)⟩) := by have := T7.out; rw [hs] at this; exact this
            have B8 : Hid (Below H w1 w7') := B7.out
            obtain ⟨a, ha⟩ := IB.out
            obtain ⟨g, hg⟩ := IG.out
            have HA : Hid (best ltI (lastV M (l.map encI) (j + 1)) = .int .i64 a) := ha
            have HG : Hid (best gtI (lastV M (l.map encI) (j + 1)) = .int .i64 g) := hg
            clear T7 hs ha hg
            generalize w7' = w8 at T8 B8 ⊢
            go_wp2_with fail
            refine (least_anyJ w8 H H _ _ T8.out.fst (IR.out _) N1.out).mono ?_; rintro e w9 ⟨rfl, q9, rfl⟩
            rw [HA.out]
            have T9 : Hid (Two 2 (w8.drewN q9) H H S v6 u7 ⟨M, lastV M (l.map encI) (j + 1)⟩ ⟨M, lastV M (l.map encI) (j + 1)⟩) := T8.out.drewN q9
            have B9 : Hid (Below H w1 (w8.drewN q9)) := below_drewN B8.out q9
            clear T8 B8
            generalize w8.drewN q9 = w9 at T9 B9 ⊢
            go_wp2_with fail
            refine (least_anyJ w9 H S _ _ T9.out.snd (IR.out _) N1.out).mono ?_; rintro e w10 ⟨rfl, q10, rfl⟩
            rw [HA.out]
            have T10 : Hid (Two 2 (w9.drewN q10) H H S v6 u7 ⟨M, lastV M (l.map encI) (j + 1)⟩ ⟨M, lastV M (l.map encI) (j + 1)⟩) := T9.out.drewN q10
            have B10 : Hid (Below H w1 (w9.drewN q10)) := below_drewN B9.out q10
            clear T9 B9
            generalize w9.drewN q10 = w10 at T10 B10 ⊢
            go_wp2_with fail
            refine (greatest_anyJ w10 H H _ _ T10.out.fst (IR.out _) N1.out).mono ?_; rintro e w11 ⟨rfl, q11, rfl⟩
            rw [HG.out]
            have T11 : Hid (Two 2 (w10.drewN q11) H H S v6 u7 ⟨M, lastV M (l.map encI) (j + 1)⟩ ⟨M, lastV M (l.map encI) (j + 1)⟩) := T10.out.drewN q11
            have B11 : Hid (Below H w1 (w10.drewN q11)) := below_drewN B10.out q11
            clear T10 B10
            generalize w10.drewN q11 = w11 at T11 B11 ⊢
            go_wp2_with fail
            refine (greatest_anyJ w11 H S _ _ T11.out.snd (IR.out _) N1.out).mono ?_; rintro e w12 ⟨rfl, q12, rfl⟩
            rw [HG.out]
            have T12 : Hid (Two 2 (w11.drewN q12) H H S v6 u7 ⟨M, lastV M (l.map encI) (j + 1)⟩ ⟨M, lastV M (l.map encI) (j + 1)⟩) := T11.out.drewN q12
            have B12 : Hid (Below H w1 (w11.drewN q12)) := below_drewN B11.out q12
            clear T11 B11
            generalize w11.drewN q12 = w12 at T12 B12 ⊢
            go_wp2_with fail
            refine (wlen_anyJ w12 H H _ _ T12.out.fst).mono ?_; rintro e w13 ⟨rfl, rfl⟩
            rw [HLEN.out]
            go_wp2_with fail
            refine (wlen_anyJ w13 H S _ _ T12.out.snd).mono ?_; rintro e w14 ⟨rfl, rfl⟩
            rw [HLEN.out]
            go_wp2_with fail
            go_roundg (m - (j + 1))
            case measure => omega
            case rel => exact ⟨j + 1, _, _, by omega, by go_num, ⟨by rw [HSAME.out (by omega)]; exact T12.out.fst, T12.out.snd, T12.out.sep⟩, B12.out⟩
        · obtain rfl : j = m := by omega
          go_wp2_with fail
          go_ret
          exact ⟨rfl, by rw [HH.out]; exact BB.out⟩

set_option maxRecDepth 100000 in
theorem lifted (os : Os) (started : os.Started) (H : Type) (enc : TypeId × Value → H) :
    ReturnsInHanded {} Try.checked os 8 .any (Rows.windowForgetsSpec.pre6 enc Try.prog Try.f8 Rows.windowForgetsRow.domain false) (Rows.windowForgetsSpec.post enc Try.prog Try.f8 false true false false) := by
  refine returnsInHanded_of_change (C := Try.checked) own started (by kernel_rfl) Try.func8
    (ChangeSpec.witness6 (enc := enc) (C := Try.checked) false ⟨#[], #[.int .i64 0, .slice none 0 0, .slice none 0 0], []⟩ 8 (by kernel_rfl) (by kernel_rfl) (by kernel_rfl) (by kernel_rfl)) ?_
  intro W base args ds gs before hval0 hW hcnd _
  have hval : ∀ (j : Nat) t v, Try.f8.params[j]? = some t → args[j]? = some v → Value.okWide Try.prog W .any base t v := hval0
  have hW' := hW
  obtain ⟨p, q, hA0, hV, rfl, hfz, hnd⟩ := hW
  have hA : DataW.TrodAll enc Try.prog W 0 (fun _ => true) true Try.f8.params.toList args.toList ds p := hA0
  rw [Try.params8] at hA hval
  obtain ⟨v0, vs0, d0, ds0, p0, q0, hargs, rfl, rfl, h0, r0⟩ := trodAll_cons hA
  obtain ⟨v1, vs1, d1, ds1, p1, q1, rfl, rfl, rfl, h1, r1⟩ := trodAll_cons r0
  obtain ⟨v2, vs2, d2, ds2, p2, q2, rfl, rfl, rfl, h2, r2⟩ := trodAll_cons r1
  obtain ⟨rfl, rfl, rfl⟩ := trodAll_nil r2
  obtain rfl : args = #[v0, v1, v2] := by cases args; simp_all
  obtain ⟨rfl, rfl⟩ := trodVars_none hV
  have hlt := hW'.lt
  have k0 := h0
  obtain ⟨a0, rfl, rfl, rfl, w0⟩ := open_int Try.underlying3 (hval 0 3 v0 rfl rfl) h0
  have k1 := h1
  obtain ⟨l1, b1, e1⟩ := open_i64s (hval 1 22 v1 rfl rfl) h1
  have k2 := h2
  obtain ⟨l2, b2, e2⟩ := open_i64s (hval 2 22 v2 rfl rfl) h2
  clear hA0 hval0
  refine (walk W a0 w0 v1 l1 b1 e1 v2 l2 b2 e2).mono fun e W' ⟨he, hg⟩ => ?_
  subst he
  exact ⟨_, rfl, post_of_below hW' (fun _ _ _ => (trodAll_cons_mk (shut_bool Try.underlying4 _) trodAll_mk0)) (trodAll_cons_mk (Below.trod laidOut (by kernel_rfl) (of_decide_eq_true (by kernel_rfl)) k0 hg (fun x hx => by first | exact absurd hx (by simp) | exact hlt x (by simp [hx]))) (trodAll_cons_mk (Below.trod laidOut (by kernel_rfl) (of_decide_eq_true (by kernel_rfl)) k1 hg (fun x hx => by first | exact absurd hx (by simp) | exact hlt x (by simp [hx]))) (trodAll_cons_mk (Below.trod laidOut (by kernel_rfl) (of_decide_eq_true (by kernel_rfl)) k2 hg (fun x hx => by first | exact absurd hx (by simp) | exact hlt x (by simp [hx]))) trodAll_mk0))) rfl hg⟩

theorem over : Rows.windowForgetsRow.holds Try.pinned (OpenSpec.ofChange Rows.windowForgetsSpec) :=
  OpenClaim.holds_of_wide 8 Try.f8 rfl rfl rfl rfl rfl rfl rfl ⟨rfl, rfl, rfl, rfl, rfl⟩ rfl rfl rfl rfl rfl (by kernel_rfl) Try.func8 (by kernel_rfl)
    (of_decide_eq_true (by kernel_rfl)) (by unfold Func.isWrapper; first | (rw [if_pos (by decide +kernel)]; kernel_rfl) | (rw [if_neg (by decide +kernel)]; exact ⟨rfl, rfl⟩))
    (fun os started H enc _ => lifted os started H enc)
end WindowForgetsL

theorem windowForgets_proved : Rows.WindowForgetsSaid := WindowForgetsL.over
#print axioms windowForgets_proved
end Go.Proofs.Ythkffclligcdnaa
