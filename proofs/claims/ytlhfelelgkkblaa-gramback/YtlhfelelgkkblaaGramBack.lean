/-
  Proved: what is written is read; with one bit turned it isn't, for its sum; without its last byte neither (the law GramBack answers true at every input).
  Conditions: none.
-/
import Derived.Test.YtlhfelelgkkblaaRows
import Derived.Test.YtlhfelelgkkblaaP20
namespace Go.Proofs.Ytlhfelelgkkblaa
open Go.ChangeShapes Go.WideShapes Go.ChangeAt Go.RowKit
set_option linter.unusedVariables false

namespace GramBackL
theorem own : ownKnob Try.prog.godebug = none := by kernel_rfl

set_option maxRecDepth 20000 in
set_option maxHeartbeats 8000000 in
theorem walk (w : World) (g : Gm) (ok : g.ok) (v : Value) (n : Nat) (A : Nat → Rc) (hA : ∀ i, i < n → (A i).ok) (hv : RdR w v n A) (a : Int) (va : (Lit.int .i64 a).wf = true) :
    Calls Try.prog 5 #[gmV g v, .int .i64 a] w fun e w' => e = .returned (.bool true) ∧ Below w.heap.size w w' := by
  obtain ⟨a0, a1⟩ := wf_i64 va
  clear va
  have HR : Hid (RdR w v n A) := hv
  have HW : Hid (∀ w', RdR w' v n A → Calls Try.prog 10 #[gmV g v] w' fun e w'' => ∃ u, e = .returned (.tuple #[u, .int .i64 (wrtE g A n)]) ∧ Own w'' w'.heap.size u (wrtB g A n) ∧ Below w'.heap.size w' w'') := fun w' h => gm_write w' g ok v n A hA h
  have NO : Hid (wrtE g A n ≠ 0 → wrtB g A n = []) := wrtB_no
  have BK : Hid (wrtE g A n = 0 → rgE (wrtB g A n) = 0 ∧ rgG (wrtB g A n) = g ∧ rgL (wrtB g A n) = pre A n ∧ 10 ≤ (wrtB g A n).length ∧ (wrtB g A n).length ≤ 4096 ∧ Bytes (wrtB g A n)) := fun h => by
    obtain ⟨h1, h2, h3, h4, h5, h6⟩ := back_gram hA h
    have h7 := rgE_zero h1
    exact ⟨h1, h2, h3, by omega, h7.1, by rw [h5]; exact sealed_ok (gmB_ok hA (wrt_ok h).1).1⟩
  have CT : Hid (wrtE g A n = 0 → rgE ((wrtB g A n).take ((wrtB g A n).length - 1)) ≠ 0) := fun h => cut_gram hA h
  have TU : Hid (wrtE g A n = 0 → ∀ j, j < (wrtB g A n).length → ∀ x, 0 ≤ x ∧ x ≤ 255 → x ≠ (wrtB g A n).getD j 0 → rgE ((wrtB g A n).set j x) = 9) := fun h j hj x hx hne => turned_gram hA h hj hx hne
  obtain ⟨er, her⟩ : ∃ x, wrtE g A n = x := ⟨_, rfl⟩
  obtain ⟨X, hX⟩ : ∃ x, wrtB g A n = x := ⟨_, rfl⟩
  rw [her, hX] at HW NO BK CT TU
  clear her hX hA
  obtain ⟨ao, cap, rfl, hc, hm, _⟩ := hv
  obtain ⟨t, m, b⟩ := g
  clear ok
  by_cases hn : 200 < n
  · go_enter Try.func5, Try.ntmps5
    go_wp2_with fail
    generalize hW : w.alloc (.cells #[.int .i64 t, .int .i64 m, .int .i64 b, .slice ao n cap] 24) = W0
    obtain ⟨A00, B00, Z0⟩ := boxed hW
    clear hW Z0
    refine (gm_alive _).mono ?_; rintro e' W1 ⟨rfl, bb⟩
    have B1 := bup B00 (Nat.le_refl _) bb
    go_wp2_with fail
    go_ret
    exact ⟨rfl, B1⟩
  go_enter Try.func5, Try.ntmps5
  go_wp2_with fail
  generalize hW : w.alloc (.cells #[.int .i64 t, .int .i64 m, .int .i64 b, .slice ao n cap] 24) = W0
  obtain ⟨A0, B0, _⟩ := boxed hW
  have R0 : Hid (RdR W0 (.slice ao n cap) n A) := HR.out.below B0
  obtain ⟨H, hH⟩ : ∃ H, w.heap.size = H := ⟨_, rfl⟩
  have HH : Hid (w.heap.size = H) := hH
  have hle : H ≤ w.heap.size := by omega
  rw [hH] at A0 B0
  rw [hH]
  clear hW hH HR
  refine (HW.out _ R0.out).mono ?_; rintro e' W1 ⟨u1, rfl, own1, bb⟩
  have A1 := A0.below bb A0.lt
  have B1 := bup B0 hle bb
  have R1 : Hid (RdR W1 (.slice ao n cap) n A) := R0.out.below bb
  clear A0 B0 R0 bb HW
  by_cases hz : er = 0
  case neg =>
    have e0 := NO.out hz
    have hne : (er == 0) = false := by simp [hz]
    rw [e0] at own1
    obtain ⟨ao1, cap1, e1, -⟩ := own1.rd
    subst e1
    clear own1 NO BK CT TU
    go_wp2_with fail
    refine (gm_alive _).mono ?_; rintro e' W2 ⟨rfl, bb⟩
    have B2 := bup B1 hle bb
    go_wp2_with fail
    go_ret
    exact ⟨ret_bool (by simp [hz]), HH.out ▸ B2⟩
  obtain ⟨k1, k2, k3, k4, k5, k6⟩ := BK.out hz
  have BX : Hid (Bytes X) := k6
  have TU' : Hid (∀ j, j < X.length → ∀ x, 0 ≤ x ∧ x ≤ 255 → x ≠ X.getD j 0 → rgE (X.set j x) = 9) := TU.out hz
  have CT' : Hid (rgE (X.take (X.length - 1)) ≠ 0) := CT.out hz
  have RD : Hid (∀ w' x, Rd w' x X → Calls Try.prog 14 #[x] w' fun e w'' => ∃ u, e = .returned (.tuple #[gmV ⟨t, m, b⟩ u, .int .i64 0]) ∧ OwnR w'' w'.heap.size u (pre A n) ∧ Below w'.heap.size w' w'') := fun w' x h => by
    have c := gm_read w' x X BX.out h (by omega)
    rw [k1, k2, k3] at c
    exact c
  subst hz
  clear NO BK CT TU k1 k2 k3 k6
  obtain ⟨N, hN⟩ : ∃ N, X.length = N := ⟨_, rfl⟩
  have HN : Hid (X.length = N) := hN
  obtain ⟨g1, cp1, e1, g10, g11, g12, g13, -⟩ := own1.form (by intro e; rw [e] at k4; simp at k4)
  have X1 : Hid (Rd W1 u1 X) := own1.rd
  rw [hN] at e1 k4 k5 g12
  subst e1
  clear hN own1 g10
  go_wp2_with fail
  refine (RD.out _ _ X1.out).mono ?_; rintro e' W2 ⟨u2, rfl, own2, bb⟩
  have A2 := A1.below bb A1.lt
  have B2 := bup B1 hle bb
  have R2 : Hid (RdR W2 (.slice ao n cap) n A) := R1.out.below bb
  have X2 : Hid (Rd W2 (.slice (some ⟨g1, 0, none⟩) N cp1) X) := X1.out.below bb
  have D2 : Hid (RdR W2 u2 n A) := rdR_pre own2
  obtain ⟨ao2, cap2, e2, hc2, hm2, _⟩ := D2.out
  subst e2
  clear own2 A1 B1 R1 X1 bb RD
  go_upto_region 7 with fail
  generalize hV : W2.alloc (.cells #[.int .i64 t, .int .i64 m, .int .i64 b, .slice ao2 n cap2] 24) = W3
  obtain ⟨Y3, bb, _⟩ := boxed hV
  have A3 := A2.below bb A2.lt
  have B3 := bup B2 hle bb
  have R3 : Hid (RdR W3 (.slice ao n cap) n A) := R2.out.below bb
  have X3 : Hid (Rd W3 (.slice (some ⟨g1, 0, none⟩) N cp1) X) := X2.out.below bb
  have D3 : Hid (RdR W3 (.slice ao2 n cap2) n A) := D2.out.below bb
  obtain ⟨S, hS⟩ : ∃ S, W2.heap.size = S := ⟨_, rfl⟩
  rw [hS] at Y3
  rw [hS]
  clear hV bb hS A2 B2 R2 X2 D2
  have x0 := A3.cell 0 _ rfl
  have x1 := A3.cell 1 _ rfl
  have x2 := A3.cell 2 _ rfl
  have x3 := A3.cell 3 _ rfl
  have xl := A3.lt
  have y0 := Y3.cell 0 _ rfl
  have y1 := Y3.cell 1 _ rfl
  have y2 := Y3.cell 2 _ rfl
  have y3 := Y3.cell 3 _ rfl
  have yl := Y3.lt
  go_wp2_with fail
  refine (dg_same _ ⟨t, m, b⟩ _ _ n A R3.out D3.out).mono ?_; rintro e' W4 ⟨rfl, bb⟩
  have B4 := bup B3 hle bb
  have X4 : Hid (Rd W4 (.slice (some ⟨g1, 0, none⟩) N cp1) X) := X3.out.below bb
  clear x0 x1 x2 x3 xl y0 y1 y2 y3 yl A3 Y3 B3 R3 D3 X3 bb
  obtain ⟨i, hi, hin⟩ := tmodB a N (by omega)
  have hi64 : wrap64 ((IntKind.u64.wrap a).tmod (8 * (N : Int))) = (i : Int) := by rw [hi]; unfold wrap64; omega
  have HI : Hid (wrap64 ((IntKind.u64.wrap a).tmod (8 * (N : Int))) = (i : Int)) := hi64
  clear hi hi64
  go_upto_region 10 with fail
  simp only [HI.out]
  have HO0 : Hid (Own (W4.alloc (.cells #[] 5)) W4.heap.size (.slice (some ⟨W4.heap.size, 0, none⟩) 0 0) []) := Own.new W4 W4.heap.size (Nat.le_refl _) [] 0 rfl (by omega)
  have HR0 : Hid (Rd (W4.alloc (.cells #[] 5)) (.slice (some ⟨g1, 0, none⟩) N cp1) X) := X4.out.below ((Below.refl _ W4).alloc (Nat.le_refl _) _)
  go_wp2_with (at_builtin; refine app_wp rfl _ _ rfl W4.heap.size _ [] rfl (by exact HO0.out) _ X rfl (by exact HR0.out) (by rw [HN.out]; simp; omega) (by simp) ?_; intro u5 W5 own5 b5; rw [List.nil_append] at own5)
  have D5 : Below W4.heap.size W4 W5 := ((Below.refl _ W4).alloc (Nat.le_refl _) _).trans b5
  have B5 := bup B4 hle D5
  have HO5 : Hid (Own W5 W4.heap.size u5 X) := own5
  obtain ⟨g2, cp2, rfl, g20, g21, g22, g23, -⟩ := own5.form (by intro e; have := HN.out; rw [e] at this; simp at this; omega)
  rw [HN.out] at g22 HO5 ⊢
  clear own5 b5 HO0 HR0
  obtain ⟨j, hj⟩ : ∃ j, i / 8 = j := ⟨_, rfl⟩
  obtain ⟨r, hr⟩ : ∃ r, i % 8 = r := ⟨_, rfl⟩
  have hjn : j < N := by omega
  have hr8 : r < 8 := by omega
  have d1 : (i : Int).tdiv 8 = (j : Int) := by rw [Int.tdiv_eq_ediv_of_nonneg (by omega)]; omega
  have d2 : (i : Int) / 8 = (j : Int) := by omega
  have d3 : (i : Int).tmod 8 = (r : Int) := by rw [Int.tmod_eq_emod_of_nonneg (by omega)]; omega
  have d4 : (i : Int) % 8 = (r : Int) := by omega
  have e1 : IntKind.i64.wrap (j : Int) = (j : Int) := by rw [IntKind.wrap_i64]; omega
  have e2 : IntKind.i64.wrap (r : Int) = (r : Int) := by rw [IntKind.wrap_i64]; omega
  obtain ⟨p, hp⟩ : ∃ p : Nat, 2 ^ r = p := ⟨_, rfl⟩
  have hp1 := bit8_is r hr8
  rw [hp] at hp1
  have e3 : (2 : Int) ^ r = (p : Int) := by rw [← hp]; simp
  have e4 : IntKind.u8.wrap (p : Int) = (p : Int) := by rw [IntKind.wrap_u8]; omega
  have j1 : (0 : Int) ≤ (j : Int) := by omega
  have j2 : (j : Int) < (N : Int) := by omega
  have hml : j < X.length := by rw [HN.out]; exact hjn
  have c1 := HO5.out.cell j hml
  have c2 := HO5.out.free j
  have hcb := BX.out.at j
  obtain ⟨c, hcc⟩ : ∃ c, X.getD j 0 = c := ⟨_, rfl⟩
  rw [hcc] at c1 hcb
  have hx := u8_xor c (p : Int) (by omega) (by omega) (by omega) (by omega)
  rw [Int.toNat_natCast] at hx
  obtain ⟨z, hze⟩ : ∃ z, ((c.toNat ^^^ p : Nat) : Int) = z := ⟨_, rfl⟩
  have hzb : 0 ≤ z ∧ z ≤ 255 := by rw [← hze]; exact turn_byte c hcb p hp1.1
  have hzn : z ≠ X.getD j 0 := by rw [← hze, hcc]; exact turn_ne c hcb.1 p hp1.2
  have HT : Hid (rgE (X.set j z) = 9) := TU'.out j hml z hzb hzn
  have BT : Hid (Bytes (X.set j z)) := BX.out.set j hzb
  have HTL : Hid ((X.set j z).length = N) := by
    have : (X.set j z).length = N := by rw [List.length_set]; exact HN.out
    exact this
  rw [hze] at hx
  clear hcc hze hzb hzn hml hp hj hr TU'
  have c1' : W5.drew.cell? ⟨g2, j, none⟩ = some (.int .u8 c) := c1
  have c2' : W5.drew.frozen? ⟨g2, j, none⟩ = false := c2
  go_wp2_with fail
  refine wp_region_any (by kernel_rfl) ?_
  change wpAny _ _ _ _ _ _ _ (World.drew _)
  refine take_to (i := 0) (d := some 66) (v := .slice (some ⟨g2, 0, none⟩) N cp2) rfl rfl (by kernel_rfl) (by kernel_rfl) (by kernel_rfl) (fun _ _ _ h => h) (Or.inl ⟨by rfl, fun w => by go_simp⟩) ?_
  simp only [Act.put, List.setIfInBounds_toArray, List.set_cons_zero, List.set_cons_succ]
  refine take_to (i := 1) (d := some 67) (v := .int .i64 (i : Int)) rfl rfl (by kernel_rfl) (by kernel_rfl) (by kernel_rfl) (fun _ _ _ h => h) (Or.inl ⟨by rfl, fun w => by go_simp⟩) ?_
  simp only [Act.put, List.setIfInBounds_toArray, List.set_cons_zero, List.set_cons_succ]
  refine take_to (i := 2) (d := some 68) (v := .int .i64 (j : Int)) rfl rfl (by kernel_rfl) (by kernel_rfl) (by kernel_rfl) (fun _ _ _ h => h) (Or.inl ⟨by rfl, fun w => by go_simp⟩) ?_
  simp only [Act.put, List.setIfInBounds_toArray, List.set_cons_zero, List.set_cons_succ]
  refine take_to (i := 3) (d := some 69) (v := .pointer (some ⟨g2, j, none⟩)) rfl rfl (by kernel_rfl) (by kernel_rfl) (by kernel_rfl) (fun _ _ _ h => h) (Or.inl ⟨by rfl, fun w => by go_simp⟩) ?_
  simp only [Act.put, List.setIfInBounds_toArray, List.set_cons_zero, List.set_cons_succ]
  refine take_to (i := 5) (d := some 71) (v := .int .i64 (i : Int)) rfl rfl (by kernel_rfl) (by kernel_rfl) (by kernel_rfl) (fun _ _ _ h => h) (Or.inl ⟨by rfl, fun w => by go_simp⟩) ?_
  simp only [Act.put, List.setIfInBounds_toArray, List.set_cons_zero, List.set_cons_succ]
  refine take_to (i := 6) (d := some 72) (v := .int .i64 (r : Int)) rfl rfl (by kernel_rfl) (by kernel_rfl) (by kernel_rfl) (fun _ _ _ h => h) (Or.inl ⟨by rfl, fun w => by go_simp⟩) ?_
  simp only [Act.put, List.setIfInBounds_toArray, List.set_cons_zero, List.set_cons_succ]
  refine take_to (i := 7) (d := some 73) (v := .int .u8 (p : Int)) rfl rfl (by kernel_rfl) (by kernel_rfl) (by kernel_rfl) (fun _ _ _ h => h) (Or.inl ⟨by rfl, fun w => by go_simp⟩) ?_
  simp only [Act.put, List.setIfInBounds_toArray, List.set_cons_zero, List.set_cons_succ]
  refine wpAny_ready (rs := [4]) (by kernel_rfl) (by simp) ?_
  refine AllReady.cons rfl (fun K hK => ?_) AllReady.nil
  go_simp
  refine hK _ _ ?_; clear hK K
  refine take_to (i := 8) (d := some 74) (v := .int .u8 z) rfl rfl (by kernel_rfl) (by kernel_rfl) (by kernel_rfl) (fun _ _ _ h => h) (Or.inl ⟨by rfl, fun w => by go_simp⟩) ?_
  simp only [Act.put, List.setIfInBounds_toArray, List.set_cons_zero, List.set_cons_succ]
  refine take_to (i := 9) (d := some 75) (v := .pointer (some ⟨g2, j, none⟩)) rfl rfl (by kernel_rfl) (by kernel_rfl) (by kernel_rfl) (fun _ _ _ h => h) (Or.inl ⟨by rfl, fun w => by go_simp⟩) ?_
  simp only [Act.put, List.setIfInBounds_toArray, List.set_cons_zero, List.set_cons_succ]
  refine wpAny_ready (rs := [10]) (by kernel_rfl) (by simp) ?_
  refine AllReady.cons rfl (fun K hK => ?_) AllReady.nil
  go_simp
  refine hK _ _ ?_; clear hK K
  refine wpAny_done (by kernel_rfl) ?_ _
  obtain ⟨W6, e6⟩ : ∃ W6, (W5.setCell ⟨g2, j, none⟩ (.int .u8 z)).drew = W6 := ⟨_, rfl⟩
  have D6 : Below W4.heap.size W4 W6 := by rw [← e6]; exact (D5.setCell g20 _).drew
  have HO6 : Hid (Own W6 W4.heap.size (.slice (some ⟨g2, 0, none⟩) N cp2) (X.set j z)) := by rw [← e6]; exact HO5.out.store j z
  rw [e6]
  have RT6 : Hid (Rd W6 (.slice (some ⟨g2, 0, none⟩) N cp2) (X.set j z)) := HO6.out.rd
  have X6 : Hid (Rd W6 (.slice (some ⟨g1, 0, none⟩) N cp1) X) := X4.out.below D6
  have B6 := bup B4 hle D6
  have RT : Hid (∀ w' x, Rd w' x (X.set j z) → Calls Try.prog 14 #[x] w' fun e w'' => ∃ u, e = .returned (.tuple #[gmV ⟨0, 0, 0⟩ u, .int .i64 9]) ∧ OwnR w'' w'.heap.size u [] ∧ Below w'.heap.size w' w'') := fun w' x h => by
    have c := gm_read w' x _ BT.out h (by rw [HTL.out]; omega)
    have e1 : rgG (X.set j z) = ⟨0, 0, 0⟩ := by unfold rgG; rw [if_neg (by rw [HT.out]; decide)]
    have e2 : rgL (X.set j z) = [] := by unfold rgL; rw [if_neg (by rw [HT.out]; decide)]
    rw [HT.out, e1, e2] at c
    exact c
  have XT : Hid (Rd W6 (.slice (some ⟨g1, 0, none⟩) (N - 1) cp1) (X.take (N - 1))) := rd_take X6.out (by omega)
  have RC : Hid (∀ w' x, Rd w' x (X.take (N - 1)) → Calls Try.prog 14 #[x] w' fun e w'' => ∃ u, e = .returned (.tuple #[gmV (rgG (X.take (N - 1))) u, .int .i64 (rgE (X.take (N - 1)))]) ∧ OwnR w'' w'.heap.size u (rgL (X.take (N - 1))) ∧ Below w'.heap.size w' w'') := fun w' x h => gm_read w' x _ (BX.out.take _) h (by rw [List.length_take]; omega)
  have CE : Hid (rgE (X.take (N - 1)) ≠ 0) := by have c := CT'.out; rw [HN.out] at c; exact c
  have ce := CE.out
  obtain ⟨E, hE⟩ : ∃ x, rgE (X.take (N - 1)) = x := ⟨_, rfl⟩
  obtain ⟨G, hG⟩ : ∃ x, rgG (X.take (N - 1)) = x := ⟨_, rfl⟩
  obtain ⟨L, hL⟩ : ∃ x, rgL (X.take (N - 1)) = x := ⟨_, rfl⟩
  rw [hE, hG, hL] at RC
  rw [hE] at ce
  have ceb : (E == 0) = false := by simp [ce]
  obtain ⟨t', m', b'⟩ := G
  clear e6 HO6 HO5 X4 c1 c2 c1' c2' hx e1 e2 e3 D5 D6 B4 B5 hE hG hL CE CT' HT BT HTL g20 g21 g22 g23 hp1 hcb d1 d2 d3 d4 j1 j2 hin HI e4
  go_wp2_with fail
  refine (RT.out _ _ RT6.out).mono ?_; rintro e' W7 ⟨u7, rfl, own7, bb⟩
  have B7 := bup B6 hle bb
  have XT7 : Hid (Rd W7 (.slice (some ⟨g1, 0, none⟩) (N - 1) cp1) (X.take (N - 1))) := XT.out.below bb
  obtain ⟨ao7, cap7, e7⟩ := own7.form
  subst e7
  clear own7 bb B6 XT X6 RT6 RT
  go_upto_region 13 with fail
  generalize hV : W7.alloc (.cells #[.int .i64 0, .int .i64 0, .int .i64 0, .slice ao7 ([] : List Rc).length cap7] 24) = W8
  obtain ⟨Y8, bb, _⟩ := boxed hV
  have B8 := bup B7 hle bb
  have XT8 : Hid (Rd W8 (.slice (some ⟨g1, 0, none⟩) (N - 1) cp1) (X.take (N - 1))) := XT7.out.below bb
  clear hV bb B7 XT7 Y8
  have s1 : (0 : Int) ≤ (N : Int) - 1 := by omega
  have s2 : (N : Int) - 1 ≤ (cp1 : Int) := by omega
  have s3 : ((N : Int) - 1).toNat = N - 1 := by omega
  go_wp2_with fail
  refine (RC.out _ _ XT8.out).mono ?_; rintro e' W9 ⟨u9, rfl, own9, bb⟩
  have B9 := bup B8 hle bb
  obtain ⟨ao9, cap9, e9⟩ := own9.form
  subst e9
  clear own9 bb B8 XT8 RC
  go_upto_region 14 with fail
  generalize hV : W9.alloc (.cells #[.int .i64 t', .int .i64 m', .int .i64 b', .slice ao9 L.length cap9] 24) = W10
  obtain ⟨Y10, bb, _⟩ := boxed hV
  have B10 := bup B9 hle bb
  clear hV bb B9 Y10
  go_wp2_with fail
  refine (gm_alive _).mono ?_; rintro e' W11 ⟨rfl, bb⟩
  have B11 := bup B10 hle bb
  go_wp2_with fail
  go_ret
  exact ⟨ret_bool (by simp; exact ⟨ce, by omega⟩), HH.out ▸ B11⟩

set_option maxRecDepth 100000 in
theorem lifted (os : Os) (started : os.Started) (H : Type) (enc : TypeId × Value → H) :
    ReturnsInHanded {} Try.checked os 5 .any (Rows.gramBackSpec.pre6 enc Try.prog Try.f5 Rows.gramBackRow.domain false) (Rows.gramBackSpec.post enc Try.prog Try.f5 false true false false) := by
  refine returnsInHanded_of_change (C := Try.checked) own started (by kernel_rfl) Try.func5
    (ChangeSpec.witness6 (enc := enc) (C := Try.checked) false ⟨#[], #[.agg #[.int .i64 0, .int .i64 0, .int .i64 0, .slice none 0 0], .int .i64 0], []⟩ 8 (by kernel_rfl) (by kernel_rfl) (by kernel_rfl) (by kernel_rfl)) ?_
  intro W base args ds gs before hval0 hW hcnd _
  have hval : ∀ (j : Nat) t v, Try.f5.params[j]? = some t → args[j]? = some v → Value.okWide Try.prog W .any base t v := hval0
  have hW' := hW
  obtain ⟨p, q, hA0, hV, rfl, hfz, hnd⟩ := hW
  have hA : DataW.TrodAll enc Try.prog W 0 (fun _ => true) true Try.f5.params.toList args.toList ds p := hA0
  rw [Try.params5] at hA hval
  obtain ⟨v0, vs0, d0, ds0, p0, q0, hargs, rfl, rfl, h0, r0⟩ := trodAll_cons hA
  obtain ⟨v1, vs1, d1, ds1, p1, q1, rfl, rfl, rfl, h1, r1⟩ := trodAll_cons r0
  obtain ⟨rfl, rfl, rfl⟩ := trodAll_nil r1
  obtain rfl : args = #[v0, v1] := by cases args; simp_all
  obtain ⟨rfl, rfl⟩ := trodVars_none hV
  have hlt := hW'.lt
  have k0 := h0
  obtain ⟨g0, u0, n0, A0, e0, ok0, b0, rd0⟩ := open_gram (hval 0 24 v0 rfl rfl) h0
  subst e0
  have k1 := h1
  obtain ⟨a1, rfl, rfl, rfl, w1⟩ := open_int Try.underlying3 (hval 1 3 v1 rfl rfl) h1
  clear hA0 hval0
  refine (walk W g0 ok0 u0 n0 A0 b0 rd0 a1 w1).mono fun e W' ⟨he, hg⟩ => ?_
  subst he
  exact ⟨_, rfl, post_of_below hW' (fun _ _ _ => (trodAll_cons_mk (shut_bool Try.underlying4 _) trodAll_mk0)) (trodAll_cons_mk (Below.trod laidOut (by kernel_rfl) (of_decide_eq_true (by kernel_rfl)) k0 hg (fun x hx => by first | exact absurd hx (by simp) | exact hlt x (by simp [hx]))) (trodAll_cons_mk (Below.trod laidOut (by kernel_rfl) (of_decide_eq_true (by kernel_rfl)) k1 hg (fun x hx => by first | exact absurd hx (by simp) | exact hlt x (by simp [hx]))) trodAll_mk0)) rfl hg⟩

theorem over : Rows.gramBackRow.holds Try.pinned (OpenSpec.ofChange Rows.gramBackSpec) :=
  OpenClaim.holds_of_wide 5 Try.f5 rfl rfl rfl rfl rfl rfl rfl ⟨rfl, rfl, rfl, rfl, rfl⟩ rfl rfl rfl rfl rfl (by kernel_rfl) Try.func5 (by kernel_rfl)
    (of_decide_eq_true (by kernel_rfl)) (by unfold Func.isWrapper; first | (rw [if_pos (by decide +kernel)]; kernel_rfl) | (rw [if_neg (by decide +kernel)]; exact ⟨rfl, rfl⟩))
    (fun os started H enc _ => lifted os started H enc)
end GramBackL

theorem gramBack_proved : Rows.GramBackSaid := GramBackL.over
#print axioms gramBack_proved
end Go.Proofs.Ytlhfelelgkkblaa
