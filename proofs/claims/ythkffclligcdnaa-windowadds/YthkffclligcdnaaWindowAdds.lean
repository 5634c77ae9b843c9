/-
  Proved: of any samples the least and the greatest one, how many are looked at, and which, are the document's, behind each (the law WindowAdds answers true at every input).
  Conditions: none.
-/
import Derived.Test.YthkffclligcdnaaRows
import Derived.Test.YthkffclligcdnaaFr13
import Derived.Test.YthkffclligcdnaaWn5
namespace Go.Proofs.Ythkffclligcdnaa
open Go.ChangeShapes Go.WideShapes Go.ChangeAt Go.RowKit
set_option linter.unusedVariables false

namespace WindowAddsL
theorem own : ownKnob Try.prog.godebug = none := by kernel_rfl

set_option maxRecDepth 20000 in
set_option maxHeartbeats 8000000 in
theorem walk (w : World) (n : Int) (hn : (Lit.int .i64 n).wf = true) (va : Value) (l : List Int) (hb : ∀ n ∈ l, -9223372036854775808 ≤ n ∧ n ≤ 9223372036854775807) (hl : RdI w va l) :
    Calls Try.prog 3 #[.int .i64 n, va] w fun e w' => e = .returned (.bool true) ∧ Below w.heap.size w w' := by
  obtain ⟨ao, cap, rfl, h1, h2, h3⟩ := hl
  have P3 : Hid _ := h3
  obtain ⟨m, hm⟩ : ∃ m, l.length = m := ⟨_, rfl⟩
  have HM : Hid (l.length = m) := hm
  rw [hm] at h1 P3
  rw [hm]
  clear hn hb h3 hm
  obtain ⟨H, hH⟩ : ∃ H, w.heap.size = H := ⟨_, rfl⟩
  have HH : Hid (w.heap.size = H) := hH
  obtain ⟨hmo1, hmo2⟩ := most_bd n
  obtain ⟨M, hMe⟩ : ∃ M, mostN n = M := ⟨_, rfl⟩
  have HMO : Hid (∀ w', Calls Try.prog 10 #[.int .i64 n] w' fun e w'' => e = .returned (.int .i64 (M : Nat)) ∧ w'' = w') := fun w' => by have := most_any w' n; rw [hMe] at this; exact this
  rw [hMe] at hmo1 hmo2
  clear hMe
  go_enter Try.func3, Try.ntmps3
  go_wp2_with fail
  refine (HMO.out _).mono ?_; rintro e w1 ⟨rfl, rfl⟩
  go_wp2_with fail
  refine (wnew_anyJ _ M hmo1 hmo2).mono ?_; rintro e w2 ⟨rfl, r2, b2, z2⟩
  rw [hH] at r2 b2
  rw [hH]
  have R2 : Hid (WinV 2 w2 H H (.slice none 0 0) ⟨M, []⟩) := r2
  have B2 : Hid (Below H w1 w2) := b2
  have hz2 : H ≤ w2.heap.size := by omega
  clear r2 b2 z2 hH
  go_wp2_with fail
  refine (wn_alive _).mono ?_; rintro e w3 ⟨rfl, b3⟩
  have R3 : Hid (WinV 2 w3 H H (.slice none 0 0) ⟨M, []⟩) := R2.out.below b3
  have B3 : Hid (Below H w1 w3) := B2.out.trans (b3.mono hz2)
  have hz3 : H ≤ w3.heap.size := Nat.le_trans hz2 b3.size
  clear R2 B2 hz2 b3
  by_cases hbig : 400 < m
  · have d1 : decide ((400 : Int) < (m : Int)) = true := by simp; omega
    go_wp2_with fail
    refine (wn_alive _).mono ?_; rintro e w4 ⟨rfl, b4⟩
    have B4 : Hid (Below H w1 w4) := B3.out.trans (b4.mono hz3)
    clear b4
    go_wp2_with fail
    go_ret
    exact ⟨rfl, by rw [HH.out]; exact B4.out⟩
  have d1 : decide ((400 : Int) < (m : Int)) = false := by simp; omega
  go_wp2_with fail
  refine (least_noneJ w3 H H _ _ R3.out rfl).mono ?_; rintro e w4 ⟨rfl, rfl⟩
  go_wp2_with fail
  refine (greatest_noneJ w4 H H _ _ R3.out rfl).mono ?_; rintro e w5 ⟨rfl, rfl⟩
  go_wp2_with fail
  refine (wlen_anyJ w5 H H _ _ R3.out).mono ?_; rintro e w6 ⟨rfl, rfl⟩
  go_wp2_with fail
  go_loopg [75] m (fun g i wr => ∃ (k : Nat) (v : Value), k + g = m ∧ i = .int .i64 k ∧ WinV 2 wr H H v ⟨M, lastV M (l.map encI) k⟩ ∧ Below H w1 wr)
  case atStart => exact ⟨0, _, by omega, rfl, by rw [lastV_zero]; exact R3.out, B3.out⟩
  case round =>
    clear R3 B3 hz3
    obtain ⟨k, v, hk, rfl, hr, hbl⟩ := hrel
    have RR : Hid (WinV 2 wr H H v ⟨M, lastV M (l.map encI) k⟩) := hr
    have BB : Hid (Below H w1 wr) := hbl
    clear hr hbl
    by_cases hlt : k < m
    · obtain ⟨b, o, rfl, hat⟩ := P3.out.resolve_left (by intro h; have := HM.out; rw [h] at this; simp at this; omega)
      have c0 := hat k hlt
      have hb0 : b < H := by have := World.block_lt_of_cell? w1 _ c0; have := HH.out; simp only at *; omega
      have hkl : k < l.length := by rw [HM.out]; exact hlt
      have e0 := (BB.out.cell (p := ⟨b, o + k, none⟩) hb0).trans c0
      have hgx : l.getD k 0 = l[k]'hkl := by rw [List.getD_eq_getElem?_getD, List.getElem?_eq_getElem hkl]; rfl
      rw [hgx] at e0
      have hkL : k < (l.map encI).length := by simpa using hkl
      have HX : Hid ((l.map encI)[k]'hkL = .int .i64 (l[k]'hkl)) := by show (l.map encI)[k]'hkL = _; simp [encI]
      have hN1 : (lastV M l (k + 1)) ≠ [] := lastV_ne hmo1 (by omega) (by omega)
      have IV : Hid (∀ k, IntsV (lastV M (l.map encI) k)) := fun k => by rw [lastV_map]; exact IntsV.enc _
      have NV : Hid (lastV M (l.map encI) (k + 1) ≠ []) := lastV_ne hmo1 (by simp; omega) (by omega)
      have HTK : lastV M (l.take (k + 1)) (k + 1) = lastV M l (k + 1) := by unfold lastV; rw [List.take_take, Nat.min_self]
      have hatT : ∀ w', Below H w1 w' → ∀ i, i < k + 1 → w'.cell? ⟨b, o + i, none⟩ = some (.int .i64 ((l.take (k + 1)).getD i 0)) := fun w' hb i hi => by
        have e : (l.take (k + 1)).getD i 0 = l.getD i 0 := by rw [List.getD_eq_getElem?_getD, List.getElem?_take, if_pos hi, ← List.getD_eq_getElem?_getD]
        rw [e]
        exact (hb.cell (p := ⟨b, o + i, none⟩) hb0).trans (hat i (by omega))
      have HRL : Hid (∀ w', Below H w1 w' → Calls Try.prog 16 #[.slice (some ⟨b, o, none⟩) (k + 1) cap, .int .i64 (M : Nat)] w' fun e w'' => e = .returned (.tuple #[.int .i64 (minI (lastV M l (k + 1))), .bool true]) ∧ w'' = w') := fun w' hb => by
        have := rleast_any w' b o (k + 1) cap M (l.take (k + 1)) (by simp; omega) (by omega) hmo1 hmo2 (by omega) (by omega) h2 (hatT w' hb)
        rw [HTK] at this; exact this
      have HRG : Hid (∀ w', Below H w1 w' → Calls Try.prog 17 #[.slice (some ⟨b, o, none⟩) (k + 1) cap, .int .i64 (M : Nat)] w' fun e w'' => e = .returned (.tuple #[.int .i64 (maxI (lastV M l (k + 1))), .bool true]) ∧ w'' = w') := fun w' hb => by
        have := rgreatest_any w' b o (k + 1) cap M (l.take (k + 1)) (by simp; omega) (by omega) hmo1 hmo2 (by omega) (by omega) h2 (hatT w' hb)
        rw [HTK] at this; exact this
      obtain ⟨N, hN⟩ : ∃ N, min (k + 1) M = N := ⟨_, rfl⟩
      obtain ⟨d, hd⟩ : ∃ d, k + 1 - M = d := ⟨_, rfl⟩
      have HRA : Hid (∀ w', Calls Try.prog 18 #[.slice (some ⟨b, o, none⟩) (k + 1) cap, .int .i64 (M : Nat)] w' fun e w'' => e = .returned (.slice (some ⟨b, o + d, none⟩) N (cap - d)) ∧ w'' = w') := fun w' => by
        have := rlast_any w' b o (k + 1) cap M hmo1 hmo2 (by omega) (by omega) h2
        rw [hN, hd] at this; exact this
      have HLN : Hid ((lastV M (l.map encI) (k + 1)).length = N) := by show _ = N; rw [lastV_len (by simp; omega)]; exact hN
      have HAT : Hid (∀ q, q < N → ∃ y, w1.cell? ⟨b, o + d + q, none⟩ = some (.int .i64 y) ∧ (lastV M (l.map encI) (k + 1))[q]? = some (.int .i64 y)) := fun q hq => by
        refine ⟨l.getD (k + 1 - M + q) 0, by rw [hd, Nat.add_assoc]; exact hat _ (by omega), ?_⟩
        have hlt' : k + 1 - M + q < l.length := by omega
        rw [lastV_at (by simp; omega) (by omega), List.getElem?_map, List.getElem?_eq_getElem hlt', List.getD_eq_getElem?_getD, List.getElem?_eq_getElem hlt']
        rfl
      have HMN : Hid (best ltI (lastV M (l.map encI) (k + 1)) = .int .i64 (minI (lastV M l (k + 1)))) := by show _ = _; rw [lastV_map, best_min hN1]
      have HMX : Hid (best gtI (lastV M (l.map encI) (k + 1)) = .int .i64 (maxI (lastV M l (k + 1)))) := by show _ = _; rw [lastV_map, best_max hN1]
      obtain ⟨x, hx⟩ : ∃ x, l[k]'hkl = x := ⟨_, rfl⟩
      rw [hx] at e0 HX
      obtain ⟨a, ha⟩ : ∃ a, minI (lastV M l (k + 1)) = a := ⟨_, rfl⟩
      obtain ⟨z, hz⟩ : ∃ z, maxI (lastV M l (k + 1)) = z := ⟨_, rfl⟩
      rw [ha] at HMN HRL
      rw [hz] at HMX HRG
      have hcd : N ≤ cap - d := by omega
      clear c0 hat hgx hx ha hz hN1 hatT HTK
      go_wp2_with fail
      refine (wadd_anyJ wr H H v _ RR.out (IV.out k) x).mono ?_; rintro e w7 ⟨v7, rfl, r7, c7⟩
      have R7 : Hid (WinV 2 w7 H H v7 ⟨M, lastV M (l.map encI) (k + 1)⟩) := win_next hmo1 hkL HX.out r7
      have B7 : Hid (Below H w1 w7) := BB.out.trans c7.below
      clear r7 c7 RR BB e0
      go_wp2_with fail
      refine (least_anyJ w7 H H v7 _ R7.out (IV.out _) NV.out).mono ?_; rintro e w8 ⟨rfl, q8, rfl⟩
      rw [HMN.out]
      have R8 : Hid (WinV 2 (w7.drewN q8) H H v7 ⟨M, lastV M (l.map encI) (k + 1)⟩) := R7.out.drewN q8
      have B8 : Hid (Below H w1 (w7.drewN q8)) := below_drewN B7.out q8
      clear R7 B7
      generalize w7.drewN q8 = w8 at R8 B8 ⊢
      go_wp2_with fail
      refine (greatest_anyJ w8 H H v7 _ R8.out (IV.out _) NV.out).mono ?_; rintro e w9 ⟨rfl, q9, rfl⟩
      rw [HMX.out]
      have R9 : Hid (WinV 2 (w8.drewN q9) H H v7 ⟨M, lastV M (l.map encI) (k + 1)⟩) := R8.out.drewN q9
      have B9 : Hid (Below H w1 (w8.drewN q9)) := below_drewN B8.out q9
      clear R8 B8
      generalize w8.drewN q9 = w9 at R9 B9 ⊢
      have hw2 : IntKind.i64.wrap ((k : Int) + 1) = (k : Int) + 1 := by rw [IntKind.wrap_i64]; omega
      have hi3 : (k : Int) + 1 ≤ (cap : Int) := by omega
      have hi4 : ((k : Int) + 1).toNat = k + 1 := by omega
      have hi5 : (0 : Int) ≤ (k : Int) + 1 := by omega
      have hi6 : k + 1 ≤ cap := by omega
      go_wp2_with fail
      go_region_held3 (fun w' => True) (first | trivial | go_keep) (first | (go_at_call 10; (with_reducible refine (HMO.out _).mono ?_); rintro e w10' ⟨rfl, rfl⟩) | (go_at_call 16; (with_reducible refine (HRL.out _ (by first | exact B9.out.drew | exact B9.out)).mono ?_); rintro e w10'' ⟨rfl, rfl⟩))
      have R10 : Hid (WinV 2 w9.drew H H v7 ⟨M, lastV M (l.map encI) (k + 1)⟩) := R9.out.drewN 1
      have B10 : Hid (Below H w1 w9.drew) := B9.out.drew
      clear R9 B9
      generalize w9.drew = w10 at R10 B10 ⊢
      go_wp2_with fail
      go_region_held3 (fun w' => True) (first | trivial | go_keep) (first | (go_at_call 10; (with_reducible refine (HMO.out _).mono ?_); rintro e w11' ⟨rfl, rfl⟩) | (go_at_call 17; (with_reducible refine (HRG.out _ (by first | exact B10.out.drew | exact B10.out)).mono ?_); rintro e w11'' ⟨rfl, rfl⟩))
      have R11 : Hid (WinV 2 w10.drew H H v7 ⟨M, lastV M (l.map encI) (k + 1)⟩) := R10.out.drewN 1
      have B11 : Hid (Below H w1 w10.drew) := B10.out.drew
      clear R10 B10
      generalize w10.drew = w11 at R11 B11 ⊢
      go_wp2_with fail
      go_region_held3 (fun w' => True) (first | trivial | go_keep) (first | (go_at_call 10; (with_reducible refine (HMO.out _).mono ?_); rintro e w12' ⟨rfl, rfl⟩) | (go_at_call 18; (with_reducible refine (HRA.out _).mono ?_); rintro e w12'' ⟨rfl, rfl⟩))
      have R12 : Hid (WinV 2 w11.drew H H v7 ⟨M, lastV M (l.map encI) (k + 1)⟩) := R11.out.drewN 1
      have B12 : Hid (Below H w1 w11.drew) := B11.out.drew
      clear R11 B11
      generalize w11.drew = w12 at R12 B12 ⊢
      go_wp2_with fail
      refine (wlast_any w12 H H v7 _ R12.out (IV.out _) NV.out).mono ?_; rintro e w13 ⟨u, rfl, o13, b13⟩
      have R13 : Hid (WinV 2 w13 H H v7 ⟨M, lastV M (l.map encI) (k + 1)⟩) := R12.out.below b13
      have B13 : Hid (Below H w1 w13) := B12.out.trans (b13.mono (by have := B12.out.size; have := HH.out; omega))
      obtain ⟨g, c13, cur, rfl, _, _, p13, q13, _⟩ := o13.some_ NV.out
      have HG : Hid (∀ q y, (lastV M (l.map encI) (k + 1))[q]? = some y → w13.cell? ⟨g, q, none⟩ = some y) := fun q y hy => o13.at rfl hy
      have hgl : g < w13.heap.size := (o13.lt g rfl).2
      simp only [HLN.out] at p13 ⊢
      clear o13 b13 R12 B12
      go_wp2_with fail
      refine (wlen_anyJ w13 H H _ _ R13.out).mono ?_; rintro e w14 ⟨rfl, rfl⟩
      rw [HLN.out]
      go_wp2_with fail
      go_loopg [155] N (fun g' i wr => ∃ (q nq : Nat), q + g' = N ∧ i = .int .i64 q ∧ wr = w14.drewN nq)
      case atStart => exact ⟨0, 0, by omega, rfl, rfl⟩
      case round =>
        obtain ⟨q, np, hq, rfl, rfl⟩ := hrel
        by_cases hqN : q < N
        · obtain ⟨y, hy1, hy2⟩ := HAT.out q hqN
          have e1 : (w14.drewN np).cell? ⟨b, o + d + q, none⟩ = some (.int .i64 y) := (B13.out.cell (p := ⟨b, o + d + q, none⟩) hb0).trans hy1
          have e2 : (w14.drewN np).cell? ⟨g, q, none⟩ = some (.int .i64 y) := HG.out q _ hy2
          have i1 : (0 : Int) ≤ (q : Int) := by omega
          have i2 : (q : Int) < (N : Int) := by omega
          clear hy1 hy2
          generalize hwx : w14.drewN np = wx at e1 e2 ⊢
          go_wp2_with fail
          go_quiet (fail)
          go_wp2_with fail
          go_roundg (N - (q + 1))
          case measure => omega
          case rel => exact ⟨q + 1, np + nq, by omega, by go_num, by rw [← hwx]; show World.drewN (World.drewN w14 np) nq = World.drewN w14 (np + nq); unfold World.drewN; rw [Nat.add_assoc]⟩
        · obtain rfl : q = N := by omega
          go_wp2_with fail
          go_roundg (m - (k + 1))
          case measure => omega
          case rel => exact ⟨k + 1, _, by omega, by go_num, R13.out.drewN np, below_drewN B13.out np⟩
    · obtain rfl : k = m := by omega
      go_wp2_with fail
      go_ret
      exact ⟨rfl, by rw [HH.out]; exact BB.out⟩

set_option maxRecDepth 100000 in
theorem lifted (os : Os) (started : os.Started) (H : Type) (enc : TypeId × Value → H) :
    ReturnsInHanded {} Try.checked os 3 .any (Rows.windowAddsSpec.pre6 enc Try.prog Try.f3 Rows.windowAddsRow.domain false) (Rows.windowAddsSpec.post enc Try.prog Try.f3 false true false false) := by
  refine returnsInHanded_of_change (C := Try.checked) own started (by kernel_rfl) Try.func3
    (ChangeSpec.witness6 (enc := enc) (C := Try.checked) false ⟨#[], #[.int .i64 0, .slice none 0 0], []⟩ 8 (by kernel_rfl) (by kernel_rfl) (by kernel_rfl) (by kernel_rfl)) ?_
  intro W base args ds gs before hval0 hW hcnd _
  have hval : ∀ (j : Nat) t v, Try.f3.params[j]? = some t → args[j]? = some v → Value.okWide Try.prog W .any base t v := hval0
  have hW' := hW
  obtain ⟨p, q, hA0, hV, rfl, hfz, hnd⟩ := hW
  have hA : DataW.TrodAll enc Try.prog W 0 (fun _ => true) true Try.f3.params.toList args.toList ds p := hA0
  rw [Try.params3] at hA hval
  obtain ⟨v0, vs0, d0, ds0, p0, q0, hargs, rfl, rfl, h0, r0⟩ := trodAll_cons hA
  obtain ⟨v1, vs1, d1, ds1, p1, q1, rfl, rfl, rfl, h1, r1⟩ := trodAll_cons r0
  obtain ⟨rfl, rfl, rfl⟩ := trodAll_nil r1
  obtain rfl : args = #[v0, v1] := by cases args; simp_all
  obtain ⟨rfl, rfl⟩ := trodVars_none hV
  have hlt := hW'.lt
  have k0 := h0
  obtain ⟨a0, rfl, rfl, rfl, w0⟩ := open_int Try.underlying3 (hval 0 3 v0 rfl rfl) h0
  have k1 := h1
  obtain ⟨l1, b1, e1⟩ := open_i64s (hval 1 22 v1 rfl rfl) h1
  clear hA0 hval0
  refine (walk W a0 w0 v1 l1 b1 e1).mono fun e W' ⟨he, hg⟩ => ?_
  subst he
  exact ⟨_, rfl, post_of_below hW' (fun _ _ _ => (trodAll_cons_mk (shut_bool Try.underlying4 _) trodAll_mk0)) (trodAll_cons_mk (Below.trod laidOut (by kernel_rfl) (of_decide_eq_true (by kernel_rfl)) k0 hg (fun x hx => by first | exact absurd hx (by simp) | exact hlt x (by simp [hx]))) (trodAll_cons_mk (Below.trod laidOut (by kernel_rfl) (of_decide_eq_true (by kernel_rfl)) k1 hg (fun x hx => by first | exact absurd hx (by simp) | exact hlt x (by simp [hx]))) trodAll_mk0)) rfl hg⟩

theorem over : Rows.windowAddsRow.holds Try.pinned (OpenSpec.ofChange Rows.windowAddsSpec) :=
  OpenClaim.holds_of_wide 3 Try.f3 rfl rfl rfl rfl rfl rfl rfl ⟨rfl, rfl, rfl, rfl, rfl⟩ rfl rfl rfl rfl rfl (by kernel_rfl) Try.func3 (by kernel_rfl)
    (of_decide_eq_true (by kernel_rfl)) (by unfold Func.isWrapper; first | (rw [if_pos (by decide +kernel)]; kernel_rfl) | (rw [if_neg (by decide +kernel)]; exact ⟨rfl, rfl⟩))
    (fun os started H enc _ => lifted os started H enc)
end WindowAddsL

theorem windowAdds_proved : Rows.WindowAddsSaid := WindowAddsL.over
#print axioms windowAdds_proved
end Go.Proofs.Ythkffclligcdnaa
