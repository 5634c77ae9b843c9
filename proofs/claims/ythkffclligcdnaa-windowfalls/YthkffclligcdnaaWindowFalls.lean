/-
  Proved: the least sample rises only when one falls out of the window; a sample that is less is the least one at once (the law WindowFalls answers true at every input).
  Conditions: none.
-/
import Derived.Test.YthkffclligcdnaaRows
import Derived.Test.YthkffclligcdnaaFr13
import Derived.Test.YthkffclligcdnaaWn5
namespace Go.Proofs.Ythkffclligcdnaa
open Go.ChangeShapes Go.WideShapes Go.ChangeAt Go.RowKit
set_option linter.unusedVariables false

namespace WindowFallsL
theorem own : ownKnob Try.prog.godebug = none := by kernel_rfl

set_option maxRecDepth 20000 in
set_option maxHeartbeats 8000000 in
theorem walk (w : World) (n : Int) (hn : (Lit.int .i64 n).wf = true) (va : Value) (l : List Int) (hb : ∀ n ∈ l, -9223372036854775808 ≤ n ∧ n ≤ 9223372036854775807) (hl : RdI w va l) :
    Calls Try.prog 6 #[.int .i64 n, va] w fun e w' => e = .returned (.bool true) ∧ Below w.heap.size w w' := by
  obtain ⟨ao, cap, rfl, h1, h2, h3⟩ := hl
  have P3 : Hid _ := h3
  obtain ⟨m, hm⟩ : ∃ m, l.length = m := ⟨_, rfl⟩
  have HM : Hid (l.length = m) := hm
  rw [hm] at h1 P3
  rw [hm]
  clear hn hb h3 hm
  obtain ⟨H, hH⟩ : ∃ H, w.heap.size = H := ⟨_, rfl⟩
  have HH : Hid (w.heap.size = H) := hH
  obtain ⟨hmo1, hmo2⟩ := most_bd n
  obtain ⟨M, hMe⟩ : ∃ M, mostN n = M := ⟨_, rfl⟩
  have HMO : Hid (∀ w', Calls Try.prog 10 #[.int .i64 n] w' fun e w'' => e = .returned (.int .i64 (M : Nat)) ∧ w'' = w') := fun w' => by have := most_any w' n; rw [hMe] at this; exact this
  rw [hMe] at hmo1 hmo2
  clear hMe
  go_enter Try.func6, Try.ntmps6
  go_wp2_with fail
  refine (HMO.out _).mono ?_; rintro e w1 ⟨rfl, rfl⟩
  go_wp2_with fail
  refine (wnew_anyJ _ M hmo1 hmo2).mono ?_; rintro e w2 ⟨rfl, r2, b2, z2⟩
  rw [hH] at r2 b2
  rw [hH]
  have R2 : Hid (WinV 2 w2 H H (.slice none 0 0) ⟨M, []⟩) := r2
  have B2 : Hid (Below H w1 w2) := b2
  have hz2 : H ≤ w2.heap.size := by omega
  clear r2 b2 z2 hH
  go_wp2_with fail
  refine (wn_alive _).mono ?_; rintro e w3 ⟨rfl, b3⟩
  have R3 : Hid (WinV 2 w3 H H (.slice none 0 0) ⟨M, []⟩) := R2.out.below b3
  have B3 : Hid (Below H w1 w3) := B2.out.trans (b3.mono hz2)
  have hz3 : H ≤ w3.heap.size := Nat.le_trans hz2 b3.size
  clear R2 B2 hz2 b3
  by_cases hbig : 400 < m
  · have d1 : decide ((400 : Int) < (m : Int)) = true := by simp; omega
    go_wp2_with fail
    refine (wn_alive _).mono ?_; rintro e w4 ⟨rfl, b4⟩
    have B4 : Hid (Below H w1 w4) := B3.out.trans (b4.mono hz3)
    clear b4
    go_wp2_with fail
    go_ret
    exact ⟨rfl, by rw [HH.out]; exact B4.out⟩
  have d1 : decide ((400 : Int) < (m : Int)) = false := by simp; omega
  go_wp2_with fail
  go_loopg [37] m (fun g i wr => ∃ (k : Nat) (v : Value), k + g = m ∧ i = .int .i64 k ∧ WinV 2 wr H H v ⟨M, lastV M (l.map encI) k⟩ ∧ Below H w1 wr)
  case atStart => exact ⟨0, _, by omega, rfl, by rw [lastV_zero]; exact R3.out, B3.out⟩
  case round =>
    clear R3 B3 hz3
    obtain ⟨k, v, hk, rfl, hr, hbl⟩ := hrel
    have RR : Hid (WinV 2 wr H H v ⟨M, lastV M (l.map encI) k⟩) := hr
    have BB : Hid (Below H w1 wr) := hbl
    clear hr hbl
    by_cases hlt : k < m
    · obtain ⟨b, o, rfl, hat⟩ := P3.out.resolve_left (by intro h; have := HM.out; rw [h] at this; simp at this; omega)
      have c0 := hat k hlt
      have hb0 : b < H := by have := World.block_lt_of_cell? w1 _ c0; have := HH.out; simp only at *; omega
      have HAT : Hid (∀ i, i < m → w1.cell? ⟨b, o + i, none⟩ = some (.int .i64 (l.getD i 0))) := hat
      have hkl : k < l.length := by rw [HM.out]; exact hlt
      have e0 := (BB.out.cell (p := ⟨b, o + k, none⟩) hb0).trans c0
      have hgx : l.getD k 0 = l[k]'hkl := by rw [List.getD_eq_getElem?_getD, List.getElem?_eq_getElem hkl]; rfl
      rw [hgx] at e0
      have F1 : Hid (minI (lastV M l (k + 1)) ≤ l[k]'hkl) := falls hmo1 hkl
      have F2 : Hid (l[k]'hkl ≤ minI (lastV M l k) → minI (lastV M l (k + 1)) = l[k]'hkl) := falls_to hmo1 hkl
      have F3 : Hid (0 < k → minI (lastV M l k) < minI (lastV M l (k + 1)) → M ≤ k ∧ l.getD (k - M) 0 = minI (lastV M l k)) := fun h0 => falls_out hmo1 h0 hkl
      have hkL : k < (l.map encI).length := by simpa using hkl
      have HX : Hid ((l.map encI)[k]'hkL = .int .i64 (l[k]'hkl)) := by show (l.map encI)[k]'hkL = _; simp [encI]
      obtain ⟨x, hx⟩ : ∃ x, l[k]'hkl = x := ⟨_, rfl⟩
      rw [hx] at e0 F1 F2 HX
      obtain ⟨nw, hnw⟩ : ∃ y, minI (lastV M l (k + 1)) = y := ⟨_, rfl⟩
      obtain ⟨ws, hws⟩ : ∃ y, minI (lastV M l k) = y := ⟨_, rfl⟩
      have HNW : Hid (best ltI (lastV M (l.map encI) (k + 1)) = .int .i64 nw) := by
        show best ltI (lastV M (l.map encI) (k + 1)) = _
        rw [lastV_map, best_min (lastV_ne hmo1 (by omega) (by omega)), hnw]
      have HWS : Hid (0 < k → best ltI (lastV M (l.map encI) k) = .int .i64 ws) := fun h0 => by
        rw [lastV_map, best_min (lastV_ne hmo1 (by omega) h0), hws]
      rw [hnw] at F1 F2 F3
      rw [hws] at F2 F3
      clear c0 hat hgx hx hnw hws
      have hN1 : Hid ((lastV M (l.map encI) (k + 1)) ≠ []) := lastV_ne hmo1 (by omega) (by omega)
      have hN0 : Hid (0 < k → (lastV M (l.map encI) k) ≠ []) := fun h0 => lastV_ne hmo1 (by omega) h0
      have IV : Hid (∀ k, IntsV (lastV M (l.map encI) k)) := fun k => by rw [lastV_map]; exact IntsV.enc _
      by_cases hk0 : k = 0
      · subst hk0
        rw [Nat.add_zero] at e0
        go_wp2_with fail
        refine (least_noneJ wr H H v _ RR.out (lastV_zero _ _)).mono ?_; rintro e w4 ⟨rfl, rfl⟩
        go_wp2_with fail
        refine (wadd_anyJ w4 H H v _ RR.out (IV.out 0) x).mono ?_; rintro e w5 ⟨v5, rfl, r5, c5⟩
        have R5 : Hid (WinV 2 w5 H H v5 ⟨M, lastV M (l.map encI) (0 + 1)⟩) := win_next hmo1 hkL HX.out r5
        have B5 : Hid (Below H w1 w5) := BB.out.trans c5.below
        clear r5 c5 RR BB
        go_wp2_with fail
        refine (least_anyJ w5 H H v5 _ R5.out (IV.out _) hN1.out).mono ?_; rintro e w6 ⟨rfl, q6, rfl⟩
        rw [HNW.out]
        have R6 : Hid (WinV 2 (w5.drewN q6) H H v5 ⟨M, lastV M (l.map encI) (0 + 1)⟩) := R5.out.drewN q6
        have B6 : Hid (Below H w1 (w5.drewN q6)) := below_drewN B5.out q6
        clear R5 B5
        generalize w5.drewN q6 = w6 at R6 B6 ⊢
        have f1 : decide (x < nw) = false := by have := F1.out; simp; omega
        go_wp2_with fail
        go_roundg (m - 1)
        case measure => omega
        case rel => exact ⟨1, _, by omega, by go_num, R6.out, B6.out⟩
      · have hk1 : 0 < k := by omega
        go_wp2_with fail
        refine (least_anyJ wr H H v _ RR.out (IV.out _) (hN0.out hk1)).mono ?_; rintro e w4 ⟨rfl, q4, rfl⟩
        rw [HWS.out hk1]
        have R4 : Hid (WinV 2 (wr.drewN q4) H H v ⟨M, lastV M (l.map encI) k⟩) := RR.out.drewN q4
        have B4 : Hid (Below H w1 (wr.drewN q4)) := below_drewN BB.out q4
        clear RR BB e0
        generalize wr.drewN q4 = w4 at R4 B4 ⊢
        go_wp2_with fail
        refine (wadd_anyJ w4 H H v _ R4.out (IV.out k) x).mono ?_; rintro e w5 ⟨v5, rfl, r5, c5⟩
        have R5 : Hid (WinV 2 w5 H H v5 ⟨M, lastV M (l.map encI) (k + 1)⟩) := win_next hmo1 hkL HX.out r5
        have B5 : Hid (Below H w1 w5) := B4.out.trans c5.below
        clear r5 c5 R4 B4
        go_wp2_with fail
        refine (least_anyJ w5 H H v5 _ R5.out (IV.out _) hN1.out).mono ?_; rintro e w6 ⟨rfl, q6, rfl⟩
        rw [HNW.out]
        have R6 : Hid (WinV 2 (w5.drewN q6) H H v5 ⟨M, lastV M (l.map encI) (k + 1)⟩) := R5.out.drewN q6
        have B6 : Hid (Below H w1 (w5.drewN q6)) := below_drewN B5.out q6
        clear R5 B5
        generalize w5.drewN q6 = w6 at R6 B6 ⊢
        have f1 : decide (x < nw) = false := by have := F1.out; simp; omega
        have f2 : x ≤ ws → nw = x := F2.out
        by_cases hup : ws < nw
        · obtain ⟨f3, f4⟩ := F3.out hk1 hup
          have f5 : decide (x ≤ ws) = false := by
            rcases Int.lt_or_le ws x with h | h
            · simpa using h
            · have := f2 h; omega
          have f6 : decide (ws < nw) = true := by simpa using hup
          have f7 : decide ((k : Int) < (M : Int)) = false := by simp; omega
          obtain ⟨d, hd⟩ : ∃ d, k - M = d := ⟨_, rfl⟩
          have hw : IntKind.i64.wrap ((k : Int) - (M : Int)) = (d : Int) := by rw [IntKind.wrap_i64]; omega
          have e1 := (B6.out.cell (p := ⟨b, o + d, none⟩) hb0).trans (HAT.out d (by omega))
          rw [hd] at f4
          rw [f4] at e1
          have i1 : (0 : Int) ≤ (d : Int) := by omega
          have i2 : (d : Int) < (m : Int) := by omega
          go_wp2_with fail
          refine (HMO.out _).mono ?_; rintro e w7 ⟨rfl, rfl⟩
          go_wp2_with fail
          refine (HMO.out _).mono ?_; rintro e w8 ⟨rfl, rfl⟩
          go_wp2_with fail
          go_roundg (m - (k + 1))
          case measure => omega
          case rel => exact ⟨k + 1, _, by omega, by go_num, R6.out, B6.out⟩
        · have f6 : decide (ws < nw) = false := by simpa using hup
          by_cases hxw : x ≤ ws
          · have f5 := f2 hxw
            subst f5
            go_wp2_with fail
            go_roundg (m - (k + 1))
            case measure => omega
            case rel => exact ⟨k + 1, _, by omega, by go_num, R6.out, B6.out⟩
          · have f5 : decide (x ≤ ws) = false := by simpa using hxw
            go_wp2_with fail
            go_roundg (m - (k + 1))
            case measure => omega
            case rel => exact ⟨k + 1, _, by omega, by go_num, R6.out, B6.out⟩
    · obtain rfl : k = m := by omega
      go_wp2_with fail
      go_ret
      exact ⟨rfl, by rw [HH.out]; exact BB.out⟩

set_option maxRecDepth 100000 in
theorem lifted (os : Os) (started : os.Started) (H : Type) (enc : TypeId × Value → H) :
    ReturnsInHanded {} Try.checked os 6 .any (Rows.windowFallsSpec.pre6 enc Try.prog Try.f6 Rows.windowFallsRow.domain false) (Rows.windowFallsSpec.post enc Try.prog Try.f6 false true false false) := by
  refine returnsInHanded_of_change (C := Try.checked) own started (by kernel_rfl) Try.func6
    (ChangeSpec.witness6 (enc := enc) (C := Try.checked) false ⟨#[], #[.int .i64 0, .slice none 0 0], []⟩ 8 (by kernel_rfl) (by kernel_rfl) (by kernel_rfl) (by kernel_rfl)) ?_
  intro W base args ds gs before hval0 hW hcnd _
  have hval : ∀ (j : Nat) t v, Try.f6.params[j]? = some t → args[j]? = some v → Value.okWide Try.prog W .any base t v := hval0
  have hW' := hW
  obtain ⟨p, q, hA0, hV, rfl, hfz, hnd⟩ := hW
  have hA : DataW.TrodAll enc Try.prog W 0 (fun _ => true) true Try.f6.params.toList args.toList ds p := hA0
  rw [Try.params6] at hA hval
  obtain ⟨v0, vs0, d0, ds0, p0, q0, hargs, rfl, rfl, h0, r0⟩ := trodAll_cons hA
  obtain ⟨v1, vs1, d1, ds1, p1, q1, rfl, rfl, rfl, h1, r1⟩ := trodAll_cons r0
  obtain ⟨rfl, rfl, rfl⟩ := trodAll_nil r1
  obtain rfl : args = #[v0, v1] := by cases args; simp_all
  obtain ⟨rfl, rfl⟩ := trodVars_none hV
  have hlt := hW'.lt
  have k0 := h0
  obtain ⟨a0, rfl, rfl, rfl, w0⟩ := open_int Try.underlying3 (hval 0 3 v0 rfl rfl) h0
  have k1 := h1
  obtain ⟨l1, b1, e1⟩ := open_i64s (hval 1 22 v1 rfl rfl) h1
  clear hA0 hval0
  refine (walk W a0 w0 v1 l1 b1 e1).mono fun e W' ⟨he, hg⟩ => ?_
  subst he
  exact ⟨_, rfl, post_of_below hW' (fun _ _ _ => (trodAll_cons_mk (shut_bool Try.underlying4 _) trodAll_mk0)) (trodAll_cons_mk (Below.trod laidOut (by kernel_rfl) (of_decide_eq_true (by kernel_rfl)) k0 hg (fun x hx => by first | exact absurd hx (by simp) | exact hlt x (by simp [hx]))) (trodAll_cons_mk (Below.trod laidOut (by kernel_rfl) (of_decide_eq_true (by kernel_rfl)) k1 hg (fun x hx => by first | exact absurd hx (by simp) | exact hlt x (by simp [hx]))) trodAll_mk0)) rfl hg⟩

theorem over : Rows.windowFallsRow.holds Try.pinned (OpenSpec.ofChange Rows.windowFallsSpec) :=
  OpenClaim.holds_of_wide 6 Try.f6 rfl rfl rfl rfl rfl rfl rfl ⟨rfl, rfl, rfl, rfl, rfl⟩ rfl rfl rfl rfl rfl (by kernel_rfl) Try.func6 (by kernel_rfl)
    (of_decide_eq_true (by kernel_rfl)) (by unfold Func.isWrapper; first | (rw [if_pos (by decide +kernel)]; kernel_rfl) | (rw [if_neg (by decide +kernel)]; exact ⟨rfl, rfl⟩))
    (fun os started H enc _ => lifted os started H enc)
end WindowFallsL

theorem windowFalls_proved : Rows.WindowFallsSaid := WindowFallsL.over
#print axioms windowFalls_proved
end Go.Proofs.Ythkffclligcdnaa
