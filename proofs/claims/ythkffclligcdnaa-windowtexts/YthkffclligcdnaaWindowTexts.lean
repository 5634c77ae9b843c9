/-
  Proved: texts are looked at as numbers are: none of the last ones is less than the least, nor greater than the greatest; both are among them (the law WindowTexts answers true at every input).
  Conditions: none.
-/
import Derived.Test.YthkffclligcdnaaRows
import Derived.Test.YthkffclligcdnaaFr13
import Derived.Test.YthkffclligcdnaaWn5
namespace Go.Proofs.Ythkffclligcdnaa
open Go.ChangeShapes Go.WideShapes Go.ChangeAt Go.RowKit
set_option linter.unusedVariables false

namespace WindowTextsL
theorem own : ownKnob Try.prog.godebug = none := by kernel_rfl

set_option maxRecDepth 20000 in
set_option maxHeartbeats 8000000 in
theorem walk (w : World) (n : Int) (hn : (Lit.int .i64 n).wf = true) (va : Value) (l : List ByteArray) (hl : RdS w va l) :
    Calls Try.prog 5 #[.int .i64 n, va] w fun e w' => e = .returned (.bool true) ∧ Below w.heap.size w w' := by
  obtain ⟨ao, cap, rfl, h1, h2, h3⟩ := hl
  have P3 : Hid _ := h3
  obtain ⟨m, hm⟩ : ∃ m, l.length = m := ⟨_, rfl⟩
  have HM : Hid (l.length = m) := hm
  rw [hm] at h1 P3
  rw [hm]
  clear hn h3 hm
  obtain ⟨H, hH⟩ : ∃ H, w.heap.size = H := ⟨_, rfl⟩
  have HH : Hid (w.heap.size = H) := hH
  obtain ⟨hmo1, hmo2⟩ := most_bd n
  obtain ⟨M, hMe⟩ : ∃ M, mostN n = M := ⟨_, rfl⟩
  have HMO : Hid (∀ w', Calls Try.prog 10 #[.int .i64 n] w' fun e w'' => e = .returned (.int .i64 (M : Nat)) ∧ w'' = w') := fun w' => by have := most_any w' n; rw [hMe] at this; exact this
  rw [hMe] at hmo1 hmo2
  clear hMe
  go_enter Try.func5, Try.ntmps5
  go_wp2_with fail
  refine (HMO.out _).mono ?_; rintro e w1 ⟨rfl, rfl⟩
  go_wp2_with fail
  refine (wnew_anyS _ M hmo1 hmo2).mono ?_; rintro e w2 ⟨rfl, r2, b2, z2⟩
  rw [hH] at r2 b2
  rw [hH]
  have R2 : Hid (WinV 9 w2 H H (.slice none 0 0) ⟨M, []⟩) := r2
  have B2 : Hid (Below H w1 w2) := b2
  have hz2 : H ≤ w2.heap.size := by omega
  clear r2 b2 z2 hH
  go_wp2_with fail
  refine (wn_alive _).mono ?_; rintro e w3 ⟨rfl, b3⟩
  have R3 : Hid (WinV 9 w3 H H (.slice none 0 0) ⟨M, []⟩) := R2.out.below b3
  have B3 : Hid (Below H w1 w3) := B2.out.trans (b3.mono hz2)
  have hz3 : H ≤ w3.heap.size := Nat.le_trans hz2 b3.size
  clear R2 B2 hz2 b3
  by_cases hbig : 200 < m
  · have d1 : decide ((200 : Int) < (m : Int)) = true := by simp; omega
    go_wp2_with fail
    refine (wn_alive _).mono ?_; rintro e w4 ⟨rfl, b4⟩
    have B4 : Hid (Below H w1 w4) := B3.out.trans (b4.mono hz3)
    clear b4
    go_wp2_with fail
    go_ret
    exact ⟨rfl, by rw [HH.out]; exact B4.out⟩
  have d1 : decide ((200 : Int) < (m : Int)) = false := by simp; omega
  go_wp2_with fail
  go_loopg [41] m (fun g i wr => ∃ (k : Nat) (v : Value), k + g = m ∧ i = .int .i64 k ∧ WinV 9 wr H H v ⟨M, lastV M (l.map encS) k⟩ ∧ Below H w1 wr)
  case atStart => exact ⟨0, _, by omega, rfl, by rw [lastV_zero]; exact R3.out, B3.out⟩
  case round =>
    clear R3 B3 hz3
    obtain ⟨k, v, hk, rfl, hr, hbl⟩ := hrel
    have RR : Hid (WinV 9 wr H H v ⟨M, lastV M (l.map encS) k⟩) := hr
    have BB : Hid (Below H w1 wr) := hbl
    clear hr hbl
    by_cases hlt : k < m
    · obtain ⟨b, o, rfl, hat⟩ := P3.out.resolve_left (by intro h; have := HM.out; rw [h] at this; simp at this; omega)
      have c0 := hat k hlt
      have hb0 : b < H := by have := World.block_lt_of_cell? w1 _ c0; have := HH.out; simp only at *; omega
      have hkl : k < l.length := by rw [HM.out]; exact hlt
      have e0 := (BB.out.cell (p := ⟨b, o + k, none⟩) hb0).trans c0
      have hgx : l.getD k ⟨#[]⟩ = l[k]'hkl := by rw [List.getD_eq_getElem?_getD, List.getElem?_eq_getElem hkl]; rfl
      rw [hgx] at e0
      have hkL : k < (l.map encS).length := by simpa using hkl
      have HX : Hid ((l.map encS)[k]'hkL = .string (l[k]'hkl)) := by show (l.map encS)[k]'hkL = _; simp [encS]
      have hN1 : (lastV M l (k + 1)) ≠ [] := lastV_ne hmo1 (by omega) (by omega)
      have IV : Hid (∀ k, StrsV (lastV M (l.map encS) k)) := fun k => by rw [lastV_map]; exact StrsV.enc _
      have NV : Hid (lastV M (l.map encS) (k + 1) ≠ []) := lastV_ne hmo1 (by simp; omega) (by omega)
      obtain ⟨d, hd⟩ : ∃ d, k + 1 - M = d := ⟨_, rfl⟩
      obtain ⟨N, hN⟩ : ∃ N, k + 1 - d = N := ⟨_, rfl⟩
      have hNm : min (k + 1) M = N := by omega
      have HAT : Hid (∀ q, q < N → w1.cell? ⟨b, o + d + q, none⟩ = some (.string ((lastV M l (k + 1)).getD q ⟨#[]⟩))) := fun q hq => by
        have e : (lastV M l (k + 1)).getD q ⟨#[]⟩ = l.getD (k + 1 - M + q) ⟨#[]⟩ := by
          rw [List.getD_eq_getElem?_getD, lastV_at (by omega) (by omega), ← List.getD_eq_getElem?_getD]
        rw [e, hd, Nat.add_assoc]
        exact hat _ (by omega)
      have HLN : Hid ((lastV M l (k + 1)).length = N) := by show _ = N; rw [lastV_len (by omega)]; exact hNm
      have HMN : Hid (best ltS (lastV M (l.map encS) (k + 1)) = .string (minS (lastV M l (k + 1)))) := by show _ = _; rw [lastV_map, best_minS hN1]
      have HMX : Hid (best gtS (lastV M (l.map encS) (k + 1)) = .string (maxS (lastV M l (k + 1)))) := by show _ = _; rw [lastV_map, best_maxS hN1]
      obtain ⟨x, hx⟩ : ∃ x, l[k]'hkl = x := ⟨_, rfl⟩
      rw [hx] at e0 HX
      have FM : Hid ((lastV M l (k + 1)).any (fun y => y.toList == (minS (lastV M l (k + 1))).toList) = true) := List.any_eq_true.2 ⟨_, minS_mem hN1, by simp⟩
      have GM : Hid ((lastV M l (k + 1)).any (fun y => y.toList == (maxS (lastV M l (k + 1))).toList) = true) := List.any_eq_true.2 ⟨_, maxS_mem hN1, by simp⟩
      have FL : Hid (∀ y ∈ lastV M l (k + 1), Op.bytesLess y.toList (minS (lastV M l (k + 1))).toList = false) := fun y hy => minS_le hy
      have GL : Hid (∀ y ∈ lastV M l (k + 1), (!Op.bytesLess y.toList (maxS (lastV M l (k + 1))).toList && !(y.toList == (maxS (lastV M l (k + 1))).toList)) = false) := fun y hy => maxS_le hy
      obtain ⟨S, hS⟩ : ∃ S, lastV M l (k + 1) = S := ⟨_, rfl⟩
      rw [hS] at HAT HLN HMN HMX FM GM FL GL
      obtain ⟨a, ha⟩ : ∃ a, minS S = a := ⟨_, rfl⟩
      obtain ⟨z, hz⟩ : ∃ z, maxS S = z := ⟨_, rfl⟩
      rw [ha] at HMN FM FL
      rw [hz] at HMX GM GL
      clear c0 hat hgx hx hS ha hz hN1
      go_wp2_with fail
      refine (wadd_anyS wr H H v _ RR.out (IV.out k) x).mono ?_; rintro e w5 ⟨v5, rfl, r5, c5⟩
      have R5 : Hid (WinV 9 w5 H H v5 ⟨M, lastV M (l.map encS) (k + 1)⟩) := win_next hmo1 hkL HX.out r5
      have B5 : Hid (Below H w1 w5) := BB.out.trans c5.below
      clear r5 c5 RR BB
      go_wp2_with fail
      refine (least_anyS w5 H H v5 _ R5.out (IV.out _) NV.out).mono ?_; rintro e w6 ⟨rfl, q6, rfl⟩
      rw [HMN.out]
      have R6 : Hid (WinV 9 (w5.drewN q6) H H v5 ⟨M, lastV M (l.map encS) (k + 1)⟩) := R5.out.drewN q6
      have B6 : Hid (Below H w1 (w5.drewN q6)) := below_drewN B5.out q6
      clear R5 B5
      generalize w5.drewN q6 = w6 at R6 B6 ⊢
      go_wp2_with fail
      refine (greatest_anyS w6 H H v5 _ R6.out (IV.out _) NV.out).mono ?_; rintro e w7 ⟨rfl, q7, rfl⟩
      rw [HMX.out]
      have R7 : Hid (WinV 9 (w6.drewN q7) H H v5 ⟨M, lastV M (l.map encS) (k + 1)⟩) := R6.out.drewN q7
      have B7 : Hid (Below H w1 (w6.drewN q7)) := below_drewN B6.out q7
      clear R6 B6
      generalize w6.drewN q7 = w7 at R7 B7 ⊢
      go_wp2_with fail
      refine (HMO.out _).mono ?_; rintro e w8 ⟨rfl, rfl⟩
      have hw1 : IntKind.i64.wrap ((k : Int) + 1 - (M : Int)) = (k : Int) + 1 - (M : Int) := by rw [IntKind.wrap_i64]; omega
      have hw2 : IntKind.i64.wrap ((k : Int) + 1) = (k : Int) + 1 := by rw [IntKind.wrap_i64]; omega
      have hmx : max (0 : Int) ((k : Int) + 1 - (M : Int)) = (d : Int) := by omega
      have hi1 : (d : Int) ≤ (k : Int) + 1 := by omega
      have hi2 : (0 : Int) ≤ (d : Int) := by omega
      have hi3 : (k : Int) + 1 ≤ (cap : Int) := by omega
      have hi4 : ((k : Int) + 1).toNat = k + 1 := by omega
      have hi5 : ¬ cap = d := by omega
      have hi6 : d ≤ k + 1 := by omega
      go_wp2_with fail
      go_loopg [13, 14, 70] N (fun g fa ga i wr => ∃ (q : Nat), q + g = N ∧ i = .int .i64 q ∧ fa = .bool ((S.take q).any (fun y => y.toList == a.toList)) ∧ ga = .bool ((S.take q).any (fun y => y.toList == z.toList)) ∧ WinV 9 wr H H v5 ⟨M, lastV M (l.map encS) (k + 1)⟩ ∧ Below H w1 wr)
      case atStart => exact ⟨0, by omega, rfl, rfl, rfl, R7.out, B7.out⟩
      case round =>
        clear R7 B7 hw1 hw2 hmx hi1 hi2 hi3 hi4 hi6 e0
        obtain ⟨q, hq, rfl, rfl, rfl, hr, hbl⟩ := hrel
        have R9 : Hid (WinV 9 wr H H v5 ⟨M, lastV M (l.map encS) (k + 1)⟩) := hr
        have B9 : Hid (Below H w1 wr) := hbl
        clear hr hbl
        by_cases hqN : q < N
        · have e1 := (B9.out.cell (p := ⟨b, o + d + q, none⟩) hb0).trans (HAT.out q hqN)
          have hqS : q < S.length := by rw [HLN.out]; exact hqN
          have hgy : S.getD q ⟨#[]⟩ = S[q]'hqS := by rw [List.getD_eq_getElem?_getD, List.getElem?_eq_getElem hqS]; rfl
          rw [hgy] at e1
          have f1 := FL.out _ (List.getElem_mem hqS)
          have g1 := GL.out _ (List.getElem_mem hqS)
          have FS : Hid ((S.take (q + 1)).any (fun y => y.toList == a.toList) = ((S.take q).any (fun y => y.toList == a.toList) || (S[q]'hqS).toList == a.toList)) := by
            show _ = _; rw [List.take_succ_eq_append_getElem hqS, List.any_append]; simp
          have GS : Hid ((S.take (q + 1)).any (fun y => y.toList == z.toList) = ((S.take q).any (fun y => y.toList == z.toList) || (S[q]'hqS).toList == z.toList)) := by
            show _ = _; rw [List.take_succ_eq_append_getElem hqS, List.any_append]; simp
          obtain ⟨y, hy⟩ : ∃ y, S[q]'hqS = y := ⟨_, rfl⟩
          obtain ⟨F, hF⟩ : ∃ F, (S.take q).any (fun y => y.toList == a.toList) = F := ⟨_, rfl⟩
          obtain ⟨G, hG⟩ : ∃ G, (S.take q).any (fun y => y.toList == z.toList) = G := ⟨_, rfl⟩
          rw [hy] at e1 f1 g1 FS GS
          rw [hF] at FS
          rw [hG] at GS
          rw [hF, hG]
          clear hy hF hG hgy
          have i1 : (0 : Int) ≤ (q : Int) := by omega
          have i2 : (q : Int) < (N : Int) := by omega
          cases F with
          | true =>
            cases G with
            | true =>
              go_wp2_with fail
              go_roundg (N - (q + 1))
              case measure => omega
              case rel => exact ⟨q + 1, by omega, by go_num, by rw [FS.out]; rfl, by rw [GS.out]; rfl, R9.out, B9.out⟩
            | false =>
              go_wp2_with fail
              go_roundg (N - (q + 1))
              case measure => omega
              case rel => exact ⟨q + 1, by omega, by go_num, by rw [FS.out]; rfl, by rw [GS.out, Bool.false_or], R9.out, B9.out⟩
          | false =>
            cases G with
            | true =>
              go_wp2_with fail
              go_roundg (N - (q + 1))
              case measure => omega
              case rel => exact ⟨q + 1, by omega, by go_num, by rw [FS.out, Bool.false_or], by rw [GS.out]; rfl, R9.out, B9.out⟩
            | false =>
              go_wp2_with fail
              go_roundg (N - (q + 1))
              case measure => omega
              case rel => exact ⟨q + 1, by omega, by go_num, by rw [FS.out, Bool.false_or], by rw [GS.out, Bool.false_or], R9.out, B9.out⟩
        · obtain rfl : q = N := by omega
          have F2 : (S.take q).any (fun y => y.toList == a.toList) = true := by rw [List.take_of_length_le (by rw [HLN.out]; exact Nat.le_refl _)]; exact FM.out
          have G2 : (S.take q).any (fun y => y.toList == z.toList) = true := by rw [List.take_of_length_le (by rw [HLN.out]; exact Nat.le_refl _)]; exact GM.out
          rw [F2, G2]
          go_wp2_with fail
          go_roundg (m - (k + 1))
          case measure => omega
          case rel => exact ⟨k + 1, _, by omega, by go_num, R9.out, B9.out⟩
    · obtain rfl : k = m := by omega
      go_wp2_with fail
      go_ret
      exact ⟨rfl, by rw [HH.out]; exact BB.out⟩

set_option maxRecDepth 100000 in
theorem lifted (os : Os) (started : os.Started) (H : Type) (enc : TypeId × Value → H) :
    ReturnsInHanded {} Try.checked os 5 .any (Rows.windowTextsSpec.pre6 enc Try.prog Try.f5 Rows.windowTextsRow.domain false) (Rows.windowTextsSpec.post enc Try.prog Try.f5 false true false false) := by
  refine returnsInHanded_of_change (C := Try.checked) own started (by kernel_rfl) Try.func5
    (ChangeSpec.witness6 (enc := enc) (C := Try.checked) false ⟨#[], #[.int .i64 0, .slice none 0 0], []⟩ 8 (by kernel_rfl) (by kernel_rfl) (by kernel_rfl) (by kernel_rfl)) ?_
  intro W base args ds gs before hval0 hW hcnd _
  have hval : ∀ (j : Nat) t v, Try.f5.params[j]? = some t → args[j]? = some v → Value.okWide Try.prog W .any base t v := hval0
  have hW' := hW
  obtain ⟨p, q, hA0, hV, rfl, hfz, hnd⟩ := hW
  have hA : DataW.TrodAll enc Try.prog W 0 (fun _ => true) true Try.f5.params.toList args.toList ds p := hA0
  rw [Try.params5] at hA hval
  obtain ⟨v0, vs0, d0, ds0, p0, q0, hargs, rfl, rfl, h0, r0⟩ := trodAll_cons hA
  obtain ⟨v1, vs1, d1, ds1, p1, q1, rfl, rfl, rfl, h1, r1⟩ := trodAll_cons r0
  obtain ⟨rfl, rfl, rfl⟩ := trodAll_nil r1
  obtain rfl : args = #[v0, v1] := by cases args; simp_all
  obtain ⟨rfl, rfl⟩ := trodVars_none hV
  have hlt := hW'.lt
  have k0 := h0
  obtain ⟨a0, rfl, rfl, rfl, w0⟩ := open_int Try.underlying3 (hval 0 3 v0 rfl rfl) h0
  have k1 := h1
  obtain ⟨l1, e1⟩ := open_strs (hval 1 41 v1 rfl rfl) h1
  clear hA0 hval0
  refine (walk W a0 w0 v1 l1 e1).mono fun e W' ⟨he, hg⟩ => ?_
  subst he
  exact ⟨_, rfl, post_of_below hW' (fun _ _ _ => (trodAll_cons_mk (shut_bool Try.underlying4 _) trodAll_mk0)) (trodAll_cons_mk (Below.trod laidOut (by kernel_rfl) (of_decide_eq_true (by kernel_rfl)) k0 hg (fun x hx => by first | exact absurd hx (by simp) | exact hlt x (by simp [hx]))) (trodAll_cons_mk (Below.trod laidOut (by kernel_rfl) (of_decide_eq_true (by kernel_rfl)) k1 hg (fun x hx => by first | exact absurd hx (by simp) | exact hlt x (by simp [hx]))) trodAll_mk0)) rfl hg⟩

theorem over : Rows.windowTextsRow.holds Try.pinned (OpenSpec.ofChange Rows.windowTextsSpec) :=
  OpenClaim.holds_of_wide 5 Try.f5 rfl rfl rfl rfl rfl rfl rfl ⟨rfl, rfl, rfl, rfl, rfl⟩ rfl rfl rfl rfl rfl (by kernel_rfl) Try.func5 (by kernel_rfl)
    (of_decide_eq_true (by kernel_rfl)) (by unfold Func.isWrapper; first | (rw [if_pos (by decide +kernel)]; kernel_rfl) | (rw [if_neg (by decide +kernel)]; exact ⟨rfl, rfl⟩))
    (fun os started H enc _ => lifted os started H enc)
end WindowTextsL

theorem windowTexts_proved : Rows.WindowTextsSaid := WindowTextsL.over
#print axioms windowTexts_proved
end Go.Proofs.Ythkffclligcdnaa
