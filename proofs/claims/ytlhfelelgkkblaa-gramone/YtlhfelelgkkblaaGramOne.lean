/-
  Proved: a datagram that is read of any bytes may be, and is written as those; so it is of them with a right sum laid behind (the law GramOne answers true at every input).
  Conditions: none.
-/
import Derived.Test.YtlhfelelgkkblaaRows
import Derived.Test.YtlhfelelgkkblaaP19
namespace Go.Proofs.Ytlhfelelgkkblaa
open Go.ChangeShapes Go.WideShapes Go.ChangeAt Go.RowKit
set_option linter.unusedVariables false

namespace GramOneL
theorem own : ownKnob Try.prog.godebug = none := by kernel_rfl

set_option maxRecDepth 20000 in
set_option maxHeartbeats 8000000 in
theorem walk (w : World) (v : Value) (l : List Int) (hb : Bytes l) (h : Rd w v l) :
    Calls Try.prog 6 #[v] w fun e w' => e = .returned (.bool true) ∧ Below w.heap.size w w' := by
  have HB : Hid (Bytes l) := hb
  have HR : Hid (Rd w v l) := h
  obtain ⟨N, hN⟩ : ∃ N, l.length = N := ⟨_, rfl⟩
  have HN : Hid (l.length = N) := hN
  obtain ⟨ao, cap, rfl, hc, hm, _⟩ := h
  rw [hN] at hc HR ⊢
  clear hN hb
  by_cases hbig : 5000 < N
  · go_enter Try.func6, Try.ntmps6
    go_wp2_with fail
    refine (gm_alive _).mono ?_; rintro e w1 ⟨rfl, b1⟩
    go_wp2_with fail
    go_ret
    exact ⟨rfl, b1⟩
  go_enter Try.func6, Try.ntmps6
  go_wp2_with fail
  refine (seal_any _ _ l HB.out HR.out (by rw [HN.out]; omega)).mono ?_; rintro e w1 ⟨u1, rfl, own1, b1⟩
  have RS : Hid (Rd w1 u1 (sealed l)) := own1.rd
  have R0 : Hid (Rd w1 (.slice ao N cap) l) := HR.out.below b1
  have SL : Hid ((sealed l).length = N + 4) := (by rw [sealed_len, HN.out] : (sealed l).length = N + 4)
  obtain ⟨ao1, cap1, e1, hc1, hm1, _⟩ := RS.out
  rw [SL.out] at e1 hc1
  subst e1
  clear own1 HR
  go_wp2_with fail
  generalize hW : w1.alloc (.cells #[.slice ao N cap, .slice ao1 (N + 4) cap1] 26) = W
  obtain ⟨S0, b2, _⟩ := boxed hW
  have B2 := bup b1 (Nat.le_refl _) b2
  have RS2 : Hid (Rd W (.slice ao1 (N + 4) cap1) (sealed l)) := RS.out.below b2
  have R2 : Hid (Rd W (.slice ao N cap) l) := R0.out.below b2
  obtain ⟨S, hS⟩ : ∃ S, w1.heap.size = S := ⟨_, rfl⟩
  rw [hS] at S0
  rw [hS]
  clear hS hW b1 b2 RS R0
  go_loopw [18] (fun i wr => ∃ k : Nat, k ≤ 2 ∧ i = .int .i64 k ∧ Blk wr S [.slice ao N cap, .slice ao1 (N + 4) cap1] ∧ Rd wr (.slice ao N cap) l ∧ Rd wr (.slice ao1 (N + 4) cap1) (sealed l) ∧ Below w.heap.size w wr) (fun i _ => 2 - (intOf i).toNat)
  case atStart => exact ⟨0, by omega, rfl, S0, R2.out, RS2.out, B2⟩
  case round =>
    obtain ⟨k, hk, rfl, q1, q2, q3, q4⟩ := hrel
    have Q2 : Hid (Rd wr (.slice ao N cap) l) := q2
    have Q3 : Hid (Rd wr (.slice ao1 (N + 4) cap1) (sealed l)) := q3
    by_cases hlt : k < 2
    · have X : ∃ ax nx cx lx, ([.slice ao N cap, .slice ao1 (N + 4) cap1] : List Value)[k]? = some (.slice ax nx cx) ∧ Rd wr (.slice ax nx cx) lx ∧ Bytes lx ∧ lx.length ≤ 5004 := by
        rcases (by omega : k = 0 ∨ k = 1) with e | e
        · subst e
          exact ⟨ao, N, cap, l, rfl, q2, HB.out, by rw [HN.out]; omega⟩
        · subst e
          exact ⟨ao1, N + 4, cap1, sealed l, rfl, q3, sealed_ok HB.out, by rw [SL.out]; omega⟩
      obtain ⟨ax, nx, cx, lx, hx, rx, bx, lenx⟩ := X
      have y0 := q1.cell k _ hx
      have ls := q1.lt
      have RX : Hid (Rd wr (.slice ax nx cx) lx) := rx
      have RC : Hid (∀ w', Rd w' (.slice ax nx cx) lx → Calls Try.prog 14 #[.slice ax nx cx] w' fun e w'' => ∃ u, e = .returned (.tuple #[gmV (rgG lx) u, .int .i64 (rgE lx)]) ∧ OwnR w'' w'.heap.size u (rgL lx) ∧ Below w'.heap.size w' w'') := fun w' h' => gm_read w' _ lx bx h' (by omega)
      have ONE : Hid (rgE lx = 0 → (rgG lx).ok ∧ (∀ i, i < (rgL lx).length → ((rgL lx).getD i noRec).ok) ∧ gmE (rgG lx) (fun i => (rgL lx).getD i noRec) (rgL lx).length = 0 ∧ wrtE (rgG lx) (fun i => (rgL lx).getD i noRec) (rgL lx).length = 0 ∧ wrtB (rgG lx) (fun i => (rgL lx).getD i noRec) (rgL lx).length = lx) := fun h' => one_gram bx h'
      have ZE : Hid (rgE lx ≠ 0 → rgG lx = ⟨0, 0, 0⟩ ∧ rgL lx = []) := fun h' => ⟨by unfold rgG; rw [if_neg h'], by unfold rgL; rw [if_neg h']⟩
      obtain ⟨E, hE⟩ : ∃ x, rgE lx = x := ⟨_, rfl⟩
      obtain ⟨G, hG⟩ : ∃ x, rgG lx = x := ⟨_, rfl⟩
      obtain ⟨L, hL⟩ : ∃ x, rgL lx = x := ⟨_, rfl⟩
      rw [hE, hG, hL] at RC ONE ZE
      clear hE hG hL bx lenx rx q2 q3 hx
      go_wp2_with fail
      clear y0 ls
      refine (RC.out _ RX.out).mono ?_; rintro e w2 ⟨u2, rfl, own2, b2⟩
      have S2 := q1.below b2 q1.lt
      have Q22 : Hid (Rd w2 (.slice ao N cap) l) := Q2.out.below b2
      have Q32 : Hid (Rd w2 (.slice ao1 (N + 4) cap1) (sealed l)) := Q3.out.below b2
      have RX2 : Hid (Rd w2 (.slice ax nx cx) lx) := RX.out.below b2
      have B2' := bup q4 (Nat.le_refl _) b2
      have O2 : Hid (OwnR w2 wr.heap.size u2 L) := own2
      obtain ⟨ao2, cap2, e2⟩ := own2.form
      obtain ⟨n2, hn2⟩ : ∃ n, L.length = n := ⟨_, rfl⟩
      have HN2 : Hid (L.length = n2) := hn2
      rw [hn2] at e2 ONE
      subst e2
      obtain ⟨t, m, b⟩ := G
      clear own2 b2 RC RX Q2 Q3 q1 q4 hn2
      by_cases hz : E = 0
      · obtain ⟨g1, g2, g3, g4, g5⟩ := ONE.out hz
        subst hz
        go_wp2_with fail
        generalize hV : w2.alloc (.cells #[.int .i64 t, .int .i64 m, .int .i64 b, .slice ao2 n2 cap2] 24) = W3
        obtain ⟨T3, b3, _⟩ := boxed hV
        have S3 := S2.below b3 S2.lt
        have Q23 : Hid (Rd W3 (.slice ao N cap) l) := Q22.out.below b3
        have Q33 : Hid (Rd W3 (.slice ao1 (N + 4) cap1) (sealed l)) := Q32.out.below b3
        have RX3 : Hid (Rd W3 (.slice ax nx cx) lx) := RX2.out.below b3
        have B3' := bup B2' (Nat.le_refl _) b3
        have RR3 : Hid (RdR W3 (.slice ao2 n2 cap2) n2 (fun i => L.getD i noRec)) := by have h3 := (OwnR.below O2.out b3).rdR; rw [HN2.out] at h3; exact h3
        have HW : Hid (∀ w', RdR w' (.slice ao2 n2 cap2) n2 (fun i => L.getD i noRec) → Calls Try.prog 10 #[gmV ⟨t, m, b⟩ (.slice ao2 n2 cap2)] w' fun e w'' => ∃ u, e = .returned (.tuple #[u, .int .i64 0]) ∧ Own w'' w'.heap.size u lx ∧ Below w'.heap.size w' w'') := fun w' h' => by
          have c := gm_write w' ⟨t, m, b⟩ g1 _ n2 _ g2 h'
          rw [g4, g5] at c
          exact c
        have HC : Hid (∀ w', RdR w' (.slice ao2 n2 cap2) n2 (fun i => L.getD i noRec) → Calls Try.prog 12 #[gmV ⟨t, m, b⟩ (.slice ao2 n2 cap2)] w' fun e w'' => e = .returned (.int .i64 0) ∧ Below w'.heap.size w' w'') := fun w' h' => by
          have c := gm_checks w' ⟨t, m, b⟩ g1 _ n2 _ g2 h'
          rw [g3] at c
          exact c
        obtain ⟨M, hM⟩ : ∃ M, w2.heap.size = M := ⟨_, rfl⟩
        rw [hM] at T3
        rw [hM]
        clear hV b3 hM g1 g2 g3 g4 g5 ONE ZE O2 S2 Q22 Q32 RX2 B2'
        refine (HW.out _ RR3.out).mono ?_; rintro e w4 ⟨u4', rfl, own4, b4⟩
        have S4 := S3.below b4 S3.lt
        have T4 := T3.below b4 T3.lt
        have Q24 : Hid (Rd w4 (.slice ao N cap) l) := Q23.out.below b4
        have Q34 : Hid (Rd w4 (.slice ao1 (N + 4) cap1) (sealed l)) := Q33.out.below b4
        have RX4 : Hid (Rd w4 (.slice ax nx cx) lx) := RX3.out.below b4
        have RR4 : Hid (RdR w4 (.slice ao2 n2 cap2) n2 (fun i => L.getD i noRec)) := RR3.out.below b4
        have B4' := bup B3' (Nat.le_refl _) b4
        obtain ⟨Z, hZ⟩ : ∃ Z, strOfNums lx = Z := ⟨_, rfl⟩
        have st1 := str_run own4.rd
        have st2 := str_run RX4.out
        rw [hZ] at st1 st2
        have c0 := T4.cell 0 _ rfl
        have c1 := T4.cell 1 _ rfl
        have c2 := T4.cell 2 _ rfl
        have c3 := T4.cell 3 _ rfl
        have lt4 := T4.lt
        clear hZ own4 b4 S3 T3 Q23 Q33 RX3 RR3 B3' HW
        go_wp2_with (go_at_call 12; refine (HC.out _ RR4.out).mono ?_; rintro e w5 ⟨rfl, b5⟩; have S5 := S4.below b5 S4.lt; have Q25 : Hid (Rd w5 (.slice ao N cap) l) := Q24.out.below b5; have Q35 : Hid (Rd w5 (.slice ao1 (N + 4) cap1) (sealed l)) := Q34.out.below b5; have B5' := bup B4' (Nat.le_refl _) b5; clear st1 st2 c0 c1 c2 c3 lt4 S4 T4 Q24 Q34 RX4 RR4 B4' b5 HC)
        go_roundw
        case rel => exact ⟨k + 1, by omega, by go_num, S5, Q25.out, Q35.out, B5'⟩
        case measure => simp [intOf]; omega
      · obtain ⟨z1, z2⟩ := ZE.out hz
        have heq : (E == 0) = false := by simp [hz]
        injection z1 with z3 z4 z5
        subst z2 z3 z4 z5
        obtain rfl : n2 = 0 := HN2.out.symm
        clear ONE ZE HN2 O2
        go_wp2_with fail
        generalize hV : w2.alloc (.cells #[.int .i64 0, .int .i64 0, .int .i64 0, .slice ao2 0 cap2] 24) = W3
        obtain ⟨T3, b3, _⟩ := boxed hV
        have S3 := S2.below b3 S2.lt
        have Q23 : Hid (Rd W3 (.slice ao N cap) l) := Q22.out.below b3
        have Q33 : Hid (Rd W3 (.slice ao1 (N + 4) cap1) (sealed l)) := Q32.out.below b3
        have B3' := bup B2' (Nat.le_refl _) b3
        clear hV b3 S2 Q22 Q32 RX2 B2'
        first
          | (go_roundw
             case rel => exact ⟨k + 1, by omega, by go_num, S3, Q23.out, Q33.out, B3'⟩
             case measure => simp [intOf]; omega)
          | (go_wp2_with fail
             go_roundw
             case rel => exact ⟨k + 1, by omega, by go_num, S3, Q23.out, Q33.out, B3'⟩
             case measure => simp [intOf]; omega)
    · obtain rfl : k = 2 := by omega
      clear Q2 Q3 q2 q3
      go_wp2_with fail
      refine (gm_alive _).mono ?_; rintro e w2 ⟨rfl, b2⟩
      have B3 := bup q4 (Nat.le_refl _) b2
      go_wp2_with fail
      go_ret
      exact ⟨rfl, B3⟩

set_option maxRecDepth 100000 in
theorem lifted (os : Os) (started : os.Started) (H : Type) (enc : TypeId × Value → H) :
    ReturnsInHanded {} Try.checked os 6 .any (Rows.gramOneSpec.pre6 enc Try.prog Try.f6 Rows.gramOneRow.domain false) (Rows.gramOneSpec.post enc Try.prog Try.f6 false true false false) := by
  refine returnsInHanded_of_change (C := Try.checked) own started (by kernel_rfl) Try.func6
    (ChangeSpec.witness6 (enc := enc) (C := Try.checked) false ⟨#[], #[.slice none 0 0], []⟩ 8 (by kernel_rfl) (by kernel_rfl) (by kernel_rfl) (by kernel_rfl)) ?_
  intro W base args ds gs before hval0 hW hcnd _
  have hval : ∀ (j : Nat) t v, Try.f6.params[j]? = some t → args[j]? = some v → Value.okWide Try.prog W .any base t v := hval0
  have hW' := hW
  obtain ⟨p, q, hA0, hV, rfl, hfz, hnd⟩ := hW
  have hA : DataW.TrodAll enc Try.prog W 0 (fun _ => true) true Try.f6.params.toList args.toList ds p := hA0
  rw [Try.params6] at hA hval
  obtain ⟨v0, vs0, d0, ds0, p0, q0, hargs, rfl, rfl, h0, r0⟩ := trodAll_cons hA
  obtain ⟨rfl, rfl, rfl⟩ := trodAll_nil r0
  obtain rfl : args = #[v0] := by cases args; simp_all
  obtain ⟨rfl, rfl⟩ := trodVars_none hV
  have hlt := hW'.lt
  have k0 := h0
  obtain ⟨l0, b0, e0⟩ := open_u8s (hval 0 26 v0 rfl rfl) h0
  clear hA0 hval0
  refine (walk W v0 l0 b0 e0).mono fun e W' ⟨he, hg⟩ => ?_
  subst he
  exact ⟨_, rfl, post_of_below hW' (fun _ _ _ => (trodAll_cons_mk (shut_bool Try.underlying4 _) trodAll_mk0)) (trodAll_cons_mk (Below.trod laidOut (by kernel_rfl) (of_decide_eq_true (by kernel_rfl)) k0 hg (fun x hx => by first | exact absurd hx (by simp) | exact hlt x (by simp [hx]))) trodAll_mk0) rfl hg⟩

theorem over : Rows.gramOneRow.holds Try.pinned (OpenSpec.ofChange Rows.gramOneSpec) :=
  OpenClaim.holds_of_wide 6 Try.f6 rfl rfl rfl rfl rfl rfl rfl ⟨rfl, rfl, rfl, rfl, rfl⟩ rfl rfl rfl rfl rfl (by kernel_rfl) Try.func6 (by kernel_rfl)
    (of_decide_eq_true (by kernel_rfl)) (by unfold Func.isWrapper; first | (rw [if_pos (by decide +kernel)]; kernel_rfl) | (rw [if_neg (by decide +kernel)]; exact ⟨rfl, rfl⟩))
    (fun os started H enc _ => lifted os started H enc)
end GramOneL

theorem gramOne_proved : Rows.GramOneSaid := GramOneL.over
#print axioms gramOne_proved
end Go.Proofs.Ytlhfelelgkkblaa
