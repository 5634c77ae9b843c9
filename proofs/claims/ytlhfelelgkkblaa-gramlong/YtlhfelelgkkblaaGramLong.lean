/-
  Proved: as many records as there may be are taken, and not one more; bytes that are too many are refused ahead of their sum (the law GramLong answers true at every input).
  Conditions: none.
-/
import Derived.Test.YtlhfelelgkkblaaRows
import Derived.Test.YtlhfelelgkkblaaP20
namespace Go.Proofs.Ytlhfelelgkkblaa
open Go.ChangeShapes Go.WideShapes Go.ChangeAt Go.RowKit
set_option linter.unusedVariables false

namespace GramLongL
theorem own : ownKnob Try.prog.godebug = none := by kernel_rfl

set_option maxRecDepth 20000 in
set_option maxHeartbeats 8000000 in
theorem walk (w : World) (a0 : Int) (h0 : (Lit.int .u8 a0).wf = true) (a1 : Int) (h1 : (Lit.int .u16 a1).wf = true) :
    Calls Try.prog 8 #[.int .u8 a0, .int .u16 a1] w fun e w' => e = .returned (.bool true) ∧ Below w.heap.size w w' := by
  obtain ⟨x0, x1⟩ := wf_u8 h0
  obtain ⟨y0, y1⟩ := wf_u16 h1
  clear h0 h1
  go_enter Try.func8, Try.ntmps8
  go_wp2_with fail
  refine (gm_most _).mono ?_; rintro e w' ⟨rfl, rfl⟩
  go_upto_region 2 with fail
  obtain ⟨n, hn⟩ : ∃ n : Nat, 126 + a0 % 5 = (n : Int) := ⟨(126 + a0 % 5).toNat, by omega⟩
  have n0 : 126 ≤ n := by omega
  have n1 : n ≤ 130 := by omega
  rw [hn]
  clear hn
  go_wp2_with fail
  generalize hV : w'.alloc (.cells #[.int .i64 0, .int .i64 0, .int .i64 (-1), .slice none 0 0] 24) = W1
  obtain ⟨P1, b1, _⟩ := boxed hV
  obtain ⟨H, hH⟩ : ∃ H, w'.heap.size = H := ⟨_, rfl⟩
  have HH : Hid (w'.heap.size = H) := hH
  have hle : H ≤ w'.heap.size := by omega
  rw [hH] at P1 b1
  rw [hH]
  clear hV hH
  go_loopw [26] (fun i wr => ∃ (k : Nat) (v : Value), k ≤ n ∧ i = .int .i64 k ∧ Blk wr H [.int .i64 0, .int .i64 0, .int .i64 (-1), v] ∧ OwnR wr (H + 1) v (pre lgA k) ∧ Below H w' wr) (fun i _ => n - (intOf i).toNat)
  case atStart => exact ⟨0, _, by omega, rfl, P1, OwnR.nil _ _, b1⟩
  case round =>
    obtain ⟨k, v, hk, rfl, q1, q2, q3⟩ := hrel
    have Q2 : Hid (OwnR wr (H + 1) v (pre lgA k)) := q2
    obtain ⟨ao, cap, ev⟩ := q2.form
    rw [pre_len] at ev
    subst ev
    have y3 := q1.cell 3 _ rfl
    have f3 := q1.froz 3
    have lp := q1.lt
    by_cases hlt : k < n
    · have AP : some H ≠ (Value.slice ao k cap).ownBlock := fun h' => by have := (q2.lt _ h'.symm).1; omega
      have PS : Hid (pre lgA k ++ [lgA k] = pre lgA (k + 1)) := (pre_succ lgA k).symm
      have PL : Hid ((pre lgA k).length = k) := pre_len _ _
      obtain ⟨L, hL⟩ : ∃ L, pre lgA k = L := ⟨_, rfl⟩
      rw [hL] at Q2 PS PL
      clear hL q2
      go_wp2_with (at_builtin; refine growR_wp rfl _ _ rfl (H + 1) _ L rfl (OwnR.below Q2.out ((Below.refl _ _).alloc (Nat.le_refl _) _)) _ (lgA k) rfl (fun j u hu => (Blk.new wr (recA (lgA k)) 50 rfl).cell j u hu) (by rw [PL.out]; omega) (by first | omega | (simp; omega)) ?_; intro u6 w6 own6 gr6; obtain ⟨ao6, cap6, e6⟩ := own6.form; obtain ⟨n6, hn6⟩ : ∃ n6, (L ++ [lgA k]).length = n6 := ⟨_, rfl⟩; rw [hn6] at e6; clear hn6; subst e6; (try simp only [Act.put, List.setIfInBounds_toArray, List.set_cons_zero, List.set_cons_succ]); have P6 := (Blk.grow (q1.alloc _) AP gr6).1; have B6 : Below H w' w6 := (q3.alloc (by omega) _).trans (gr6.below.mono (by omega)); have O6 : Hid (OwnR w6 (H + 1) (Value.slice ao6 n6 cap6) (L ++ [lgA k])) := own6; clear own6 gr6; have z3 := P6.cell 3 _ rfl; have g3 := P6.froz 3; have lp6 := P6.lt; clear y3 f3 lp)
      have P7 : Blk (w6.setCell ⟨H, 3, none⟩ (Value.slice ao6 n6 cap6)) H [.int .i64 0, .int .i64 0, .int .i64 (-1), Value.slice ao6 n6 cap6] := P6.set 3 _ (by simp)
      have O7 : Hid (OwnR (w6.setCell ⟨H, 3, none⟩ (Value.slice ao6 n6 cap6)) (H + 1) (Value.slice ao6 n6 cap6) (L ++ [lgA k])) := OwnR.chUp O6.out ((Ch.refl H _).set 3 _) (by omega)
      have B7 : Below H w' (w6.setCell ⟨H, 3, none⟩ (Value.slice ao6 n6 cap6)) := B6.setCell (by show H ≤ H; omega) _
      generalize w6.setCell ⟨H, 3, none⟩ (Value.slice ao6 n6 cap6) = w7 at P7 O7 B7 ⊢
      clear P6 B6 O6 z3 g3 lp6 q1 q3
      go_roundw
      case rel => exact ⟨k + 1, _, by omega, by go_num, P7, by rw [← PS.out]; exact O7.out, B7⟩
      case measure => simp [intOf]; omega
    · obtain rfl : k = n := by omega
      have z0 := q1.cell 0 _ rfl
      have z1 := q1.cell 1 _ rfl
      have z2 := q1.cell 2 _ rfl
      have RR : Hid (RdR wr (.slice ao k cap) k lgA) := rdR_pre q2
      clear q2 Q2 f3 P1 b1
      have HW : Hid (∀ w'', RdR w'' (.slice ao k cap) k lgA → Calls Try.prog 10 #[.agg #[.int .i64 0, .int .i64 0, .int .i64 (-1), .slice ao k cap]] w'' fun e w3 => ∃ u, e = .returned (.tuple #[u, .int .i64 (wrtE lgG lgA k)]) ∧ Own w3 w''.heap.size u (wrtB lgG lgA k) ∧ Below w''.heap.size w'' w3) := fun w'' h => gm_write w'' lgG lgG_ok _ k lgA (fun i hi => lg_ok i (by omega)) h
      by_cases hbig : 128 < k
      · obtain ⟨e1, e2⟩ := lg_no hbig
        rw [e1, e2] at HW
        clear e1 e2
        go_wp2_with fail
        refine (HW.out _ RR.out).mono ?_; rintro e' WX ⟨u2, rfl, own2, bb⟩
        obtain ⟨ao2, cap2, e2, -⟩ := own2.rd
        subst e2
        have BX := bup q3 hle bb
        clear own2 bb q3 RR HW q1 z0 z1 z2 y3 lp
        go_upto_region 17 with fail
        obtain ⟨q, hq⟩ : ∃ q : Nat, a1 % 9000 = (q : Int) := ⟨(a1 % 9000).toNat, by omega⟩
        have q1 : q < 9000 := by omega
        have HQ : Hid (a1 % 9000 = (q : Int)) := hq
        clear hq
        have ZE := zeros_is q
        have RZ : Hid (∀ w' x, Rd w' x (List.replicate q 0) → Calls Try.prog 14 #[x] w' fun e w'' => ∃ u, e = .returned (.tuple #[gmV (rgG (List.replicate q 0)) u, .int .i64 (rgE (List.replicate q 0))]) ∧ OwnR w'' w'.heap.size u (rgL (List.replicate q 0)) ∧ Below w'.heap.size w' w'') := fun w' x h => gm_read w' x _ (zero_bytes q) h (by rw [List.length_replicate]; omega)
        obtain ⟨E, hE⟩ : ∃ x, rgE (List.replicate q 0) = x := ⟨_, rfl⟩
        obtain ⟨G, hG⟩ : ∃ x, rgG (List.replicate q 0) = x := ⟨_, rfl⟩
        obtain ⟨L, hL⟩ : ∃ x, rgL (List.replicate q 0) = x := ⟨_, rfl⟩
        rw [hE, hG, hL] at RZ
        rw [hE] at ZE
        clear hE hG hL
        have ZZ : Hid ((E = 8 ↔ 4096 < q) ∧ E ≠ 0) := ZE
        clear ZE
        go_wp2_with (at_make; refine make_wp rfl _ _ rfl WX.heap.size q _ rfl rfl HQ.out (by omega) (Nat.le_refl _) ?_; intro wm ownm bm)
        have RM : Hid (Rd wm _ (List.replicate q 0)) := ownm.rd
        have BM := bup BX hle bm
        clear ownm bm BX
        refine (RZ.out _ _ RM.out).mono ?_; rintro e' wn ⟨un, rfl, ownn, bn⟩
        have BN := bup BM hle bn
        clear ownn bn BM RM RZ
        go_wp2_with fail
        refine (gm_alive _).mono ?_; rintro e' wo ⟨rfl, bo⟩
        have BO := bup BN hle bo
        clear bo BN
        have z1 := ZZ.out.1
        have z2 := ZZ.out.2
        by_cases hq : 4096 < q
        · have e8 : E = 8 := z1.2 hq
          have hq' : 4096 < a1 % 9000 := by rw [HQ.out]; omega
          subst e8
          clear z1 z2 ZZ
          go_wp2_with fail
          go_ret
          exact ⟨ret_bool (by simp; try omega), HH.out ▸ BO⟩
        · have e8 : ¬ E = 8 := fun h => hq (z1.1 h)
          have hq' : ¬ 4096 < a1 % 9000 := by rw [HQ.out]; omega
          have e8b : (E == 8) = false := by simp [e8]
          have e0b : (E == 0) = false := by simp [z2]
          clear z1 ZZ
          go_wp2_with fail
          go_ret
          exact ⟨ret_bool (by simp [z2]; try omega), HH.out ▸ BO⟩
      · have e1 := lg_yes (n := k) (by omega)
        obtain ⟨k1, k2, k3, k4, k5, k6⟩ := back_gram (g := lgG) (A := lgA) (n := k) (fun i hi => lg_ok i (by omega)) e1
        have k7 := rgE_zero k1
        have BX0 : Hid (Bytes (wrtB lgG lgA k)) := (by rw [k5]; exact sealed_ok (gmB_ok (fun i hi => lg_ok i (by omega)) (wrt_ok e1).1).1 : Bytes (wrtB lgG lgA k))
        rw [e1] at HW
        have RD : Hid (∀ w'' x, Rd w'' x (wrtB lgG lgA k) → Calls Try.prog 14 #[x] w'' fun e w3 => ∃ u, e = .returned (.tuple #[.agg #[.int .i64 0, .int .i64 0, .int .i64 (-1), u], .int .i64 0]) ∧ OwnR w3 w''.heap.size u (pre lgA k) ∧ Below w''.heap.size w'' w3) := fun w'' x h => by
          have c := gm_read w'' x _ BX0.out h (by omega)
          rw [k1, k2, k3] at c
          exact c
        obtain ⟨X, hX⟩ : ∃ x, wrtB lgG lgA k = x := ⟨_, rfl⟩
        rw [hX] at HW RD
        clear hX BX0 e1 k1 k2 k3 k4 k5 k6 k7
        go_wp2_with fail
        refine (HW.out _ RR.out).mono ?_; rintro e' W2 ⟨u2, rfl, own2, bb⟩
        have X2 : Hid (Rd W2 u2 X) := own2.rd
        have B2 := bup q3 hle bb
        clear own2 bb q3 RR HW q1 z0 z1 z2 y3 lp
        go_wp2_with fail
        refine (RD.out _ _ X2.out).mono ?_; rintro e' W3 ⟨u3, rfl, own3, bb⟩
        have B3 := bup B2 hle bb
        obtain ⟨ao3, cap3, e3⟩ := own3.form
        rw [pre_len] at e3
        subst e3
        clear own3 bb B2 X2 RD
        go_upto_region 15 with fail
        generalize hV : W3.alloc (.cells #[.int .i64 0, .int .i64 0, .int .i64 (-1), .slice ao3 k cap3] 24) = WX
        obtain ⟨Y, bb, -⟩ := boxed hV
        have BX := bup B3 hle bb
        obtain ⟨S, hS⟩ : ∃ S, W3.heap.size = S := ⟨_, rfl⟩
        rw [hS] at Y
        rw [hS]
        clear hV bb hS B3
        have z3 := Y.cell 3 _ rfl
        have lz := Y.lt
        go_upto_region 17 with fail
        clear z3 lz Y
        obtain ⟨q, hq⟩ : ∃ q : Nat, a1 % 9000 = (q : Int) := ⟨(a1 % 9000).toNat, by omega⟩
        have q1 : q < 9000 := by omega
        have HQ : Hid (a1 % 9000 = (q : Int)) := hq
        clear hq
        have ZE := zeros_is q
        have RZ : Hid (∀ w' x, Rd w' x (List.replicate q 0) → Calls Try.prog 14 #[x] w' fun e w'' => ∃ u, e = .returned (.tuple #[gmV (rgG (List.replicate q 0)) u, .int .i64 (rgE (List.replicate q 0))]) ∧ OwnR w'' w'.heap.size u (rgL (List.replicate q 0)) ∧ Below w'.heap.size w' w'') := fun w' x h => gm_read w' x _ (zero_bytes q) h (by rw [List.length_replicate]; omega)
        obtain ⟨E, hE⟩ : ∃ x, rgE (List.replicate q 0) = x := ⟨_, rfl⟩
        obtain ⟨G, hG⟩ : ∃ x, rgG (List.replicate q 0) = x := ⟨_, rfl⟩
        obtain ⟨L, hL⟩ : ∃ x, rgL (List.replicate q 0) = x := ⟨_, rfl⟩
        rw [hE, hG, hL] at RZ
        rw [hE] at ZE
        clear hE hG hL
        have ZZ : Hid ((E = 8 ↔ 4096 < q) ∧ E ≠ 0) := ZE
        clear ZE
        go_wp2_with (at_make; refine make_wp rfl _ _ rfl WX.heap.size q _ rfl rfl HQ.out (by omega) (Nat.le_refl _) ?_; intro wm ownm bm)
        have RM : Hid (Rd wm _ (List.replicate q 0)) := ownm.rd
        have BM := bup BX hle bm
        clear ownm bm BX
        refine (RZ.out _ _ RM.out).mono ?_; rintro e' wn ⟨un, rfl, ownn, bn⟩
        have BN := bup BM hle bn
        clear ownn bn BM RM RZ
        go_wp2_with fail
        refine (gm_alive _).mono ?_; rintro e' wo ⟨rfl, bo⟩
        have BO := bup BN hle bo
        clear bo BN
        have z1 := ZZ.out.1
        have z2 := ZZ.out.2
        by_cases hq : 4096 < q
        · have e8 : E = 8 := z1.2 hq
          have hq' : 4096 < a1 % 9000 := by rw [HQ.out]; omega
          subst e8
          clear z1 z2 ZZ
          go_wp2_with fail
          go_ret
          exact ⟨ret_bool (by simp; try omega), HH.out ▸ BO⟩
        · have e8 : ¬ E = 8 := fun h => hq (z1.1 h)
          have hq' : ¬ 4096 < a1 % 9000 := by rw [HQ.out]; omega
          have e8b : (E == 8) = false := by simp [e8]
          have e0b : (E == 0) = false := by simp [z2]
          clear z1 ZZ
          go_wp2_with fail
          go_ret
          exact ⟨ret_bool (by simp [z2]; try omega), HH.out ▸ BO⟩

set_option maxRecDepth 100000 in
theorem lifted (os : Os) (started : os.Started) (H : Type) (enc : TypeId × Value → H) :
    ReturnsInHanded {} Try.checked os 8 .any (Rows.gramLongSpec.pre6 enc Try.prog Try.f8 Rows.gramLongRow.domain false) (Rows.gramLongSpec.post enc Try.prog Try.f8 false true false false) := by
  refine returnsInHanded_of_change (C := Try.checked) own started (by kernel_rfl) Try.func8
    (ChangeSpec.witness6 (enc := enc) (C := Try.checked) false ⟨#[], #[.int .u8 0, .int .u16 0], []⟩ 8 (by kernel_rfl) (by kernel_rfl) (by kernel_rfl) (by kernel_rfl)) ?_
  intro W base args ds gs before hval0 hW hcnd _
  have hval : ∀ (j : Nat) t v, Try.f8.params[j]? = some t → args[j]? = some v → Value.okWide Try.prog W .any base t v := hval0
  have hW' := hW
  obtain ⟨p, q, hA0, hV, rfl, hfz, hnd⟩ := hW
  have hA : DataW.TrodAll enc Try.prog W 0 (fun _ => true) true Try.f8.params.toList args.toList ds p := hA0
  rw [Try.params8] at hA hval
  obtain ⟨v0, vs0, d0, ds0, p0, q0, hargs, rfl, rfl, h0, r0⟩ := trodAll_cons hA
  obtain ⟨v1, vs1, d1, ds1, p1, q1, rfl, rfl, rfl, h1, r1⟩ := trodAll_cons r0
  obtain ⟨rfl, rfl, rfl⟩ := trodAll_nil r1
  obtain rfl : args = #[v0, v1] := by cases args; simp_all
  obtain ⟨rfl, rfl⟩ := trodVars_none hV
  have hlt := hW'.lt
  have k0 := h0
  obtain ⟨a0, rfl, rfl, rfl, w0⟩ := open_int Try.underlying5 (hval 0 5 v0 rfl rfl) h0
  have k1 := h1
  obtain ⟨a1, rfl, rfl, rfl, w1⟩ := open_int Try.underlying48 (hval 1 48 v1 rfl rfl) h1
  clear hA0 hval0
  refine (walk W a0 w0 a1 w1).mono fun e W' ⟨he, hg⟩ => ?_
  subst he
  exact ⟨_, rfl, post_of_below hW' (fun _ _ _ => (trodAll_cons_mk (shut_bool Try.underlying4 _) trodAll_mk0)) (trodAll_cons_mk (Below.trod laidOut (by kernel_rfl) (of_decide_eq_true (by kernel_rfl)) k0 hg (fun x hx => by first | exact absurd hx (by simp) | exact hlt x (by simp [hx]))) (trodAll_cons_mk (Below.trod laidOut (by kernel_rfl) (of_decide_eq_true (by kernel_rfl)) k1 hg (fun x hx => by first | exact absurd hx (by simp) | exact hlt x (by simp [hx]))) trodAll_mk0)) rfl hg⟩

theorem over : Rows.gramLongRow.holds Try.pinned (OpenSpec.ofChange Rows.gramLongSpec) :=
  OpenClaim.holds_of_wide 8 Try.f8 rfl rfl rfl rfl rfl rfl rfl ⟨rfl, rfl, rfl, rfl, rfl⟩ rfl rfl rfl rfl rfl (by kernel_rfl) Try.func8 (by kernel_rfl)
    (of_decide_eq_true (by kernel_rfl)) (by unfold Func.isWrapper; first | (rw [if_pos (by decide +kernel)]; kernel_rfl) | (rw [if_neg (by decide +kernel)]; exact ⟨rfl, rfl⟩))
    (fun os started H enc _ => lifted os started H enc)
end GramLongL

theorem gramLong_proved : Rows.GramLongSaid := GramLongL.over
#print axioms gramLong_proved
end Go.Proofs.Ytlhfelelgkkblaa
