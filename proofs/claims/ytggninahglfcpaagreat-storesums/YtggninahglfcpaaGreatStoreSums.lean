/-
  Proved: bytes of which one bit was turned are refused for their sum; so is everything that isn't sealed (the law StoreSums answers true at every input).
  Conditions: none.
-/
import Derived.Test.YtggninahglfcpaaGreatRows
import Derived.Test.YtggninahglfcpaaGreatP39
namespace Go.Proofs.YtggninahglfcpaaGreat
open Go.ChangeShapes Go.WideShapes Go.ChangeAt Go.RowKit
set_option linter.unusedVariables false

namespace StoreSumsL
theorem own : ownKnob Tryz.prog.godebug = none := by kernel_rfl

theorem tmod_in (a : Int) (n : Nat) : ∃ i : Nat, (IntKind.u64.wrap a).tmod (8 * ((n : Int) + 4)) = (i : Int) ∧ i < 8 * (n + 4) := by
  have h0 : 0 ≤ IntKind.u64.wrap a := by rw [IntKind.wrap_u64]; omega
  rw [Int.tmod_eq_emod_of_nonneg h0]
  have h1 := Int.emod_nonneg (IntKind.u64.wrap a) (show 8 * ((n : Int) + 4) ≠ 0 by omega)
  have h2 := Int.emod_lt_of_pos (IntKind.u64.wrap a) (show (0 : Int) < 8 * ((n : Int) + 4) by omega)
  exact ⟨((IntKind.u64.wrap a) % (8 * ((n : Int) + 4))).toNat, by omega, by omega⟩
theorem bit_is (r : Nat) (h : r < 8) : 2 ^ r < 256 ∧ 2 ^ r ≠ 0 := by
  rcases (show r = 0 ∨ r = 1 ∨ r = 2 ∨ r = 3 ∨ r = 4 ∨ r = 5 ∨ r = 6 ∨ r = 7 by omega) with rfl | rfl | rfl | rfl | rfl | rfl | rfl | rfl <;> decide
theorem bad_is {s : Sto} {x : List Int} (h1 : x.length ≤ 4096) (h2 : openB x = false) : tkE s x = 9 ∧ tkT s x = 0 ∧ accS s x = ⟨s.M, s.L, incN s.N 9⟩ := by
  have e : rgE x = 9 := by unfold rgE; rw [if_neg (by omega), if_neg (by rw [h2]; simp)]
  have e2 : tkE s x = 9 := by unfold tkE; rw [if_neg (by rw [e]; decide), e]
  exact ⟨e2, by unfold tkT; rw [if_neg (by rw [e2]; decide)], by unfold accS tkL; rw [if_neg (by rw [e2]; decide), e2]⟩
def q0 : Sto := ⟨3, [], [0, 0, 0, 0, 0, 0, 0, 0, 0, 0, 0, 0, 0, 0, 0, 0, 0, 0]⟩
def q1 : Sto := ⟨3, [], [0, 0, 0, 0, 0, 0, 0, 0, 0, 1, 0, 0, 0, 0, 0, 0, 0, 0]⟩
def q2 : Sto := ⟨3, [], [0, 0, 0, 0, 0, 0, 0, 0, 0, 2, 0, 0, 0, 0, 0, 0, 0, 0]⟩
set_option maxRecDepth 20000 in
set_option maxHeartbeats 8000000 in
theorem walk (w : World) (gg : Gm) (ok : gg.ok) (v : Value) (n0 : Nat) (A : Nat → Rc) (hA : ∀ i, i < n0 → (A i).ok) (hv : RdR w v n0 A) (a : Int) (va : (Lit.int .i64 a).wf = true) :
    Calls Tryz.prog 7 #[gmV gg v, .int .i64 a] w fun e w' => e = .returned (.bool true) ∧ Below w.heap.size w w' := by
  obtain ⟨a0, a1⟩ := wf_i64 va
  clear va
  have HW : Hid (∀ w', Below w.heap.size w w' → Calls Tryz.prog 26 #[gmV gg v] w' fun e w'' => ∃ u, e = .returned (.tuple #[u, .int .i64 (wrtE gg A n0)]) ∧ Own w'' w'.heap.size u (wrtB gg A n0) ∧ Below w'.heap.size w' w'') := fun w' h => gm_write w' gg ok v n0 A hA (hv.below h)
  have HE : Hid (wrtE gg A n0 = 0 → wrtB gg A n0 = sealed (gmB gg A n0) ∧ Bytes (gmB gg A n0) ∧ (gmB gg A n0).length + 4 ≤ 4096) := fun h => by
    obtain ⟨h3, h4, h5, h6, h7, h8⟩ := back_gram (g := gg) (A := A) (n := n0) hA h
    have h9 := rgE_zero h3
    exact ⟨h7, (gmB_ok hA (wrt_ok h).1).1, by have := h9.1; omega⟩
  obtain ⟨E, hE⟩ : ∃ E, wrtE gg A n0 = E := ⟨_, rfl⟩
  obtain ⟨XW, hX⟩ : ∃ E, wrtB gg A n0 = E := ⟨_, rfl⟩
  obtain ⟨l, hl⟩ : ∃ l, gmB gg A n0 = l := ⟨_, rfl⟩
  rw [hE, hX] at HW
  rw [hE, hX, hl] at HE
  clear hE hX hl hA ok
  obtain ⟨av, cv, rfl, -⟩ := hv
  obtain ⟨gt, gm, gb⟩ := gg
  go_enter Tryz.func7, Tryz.ntmps7
  go_wp2_with fail
  generalize hW : w.alloc (.cells #[.int .i64 gt, .int .i64 gm, .int .i64 gb, .slice av n0 cv] 57) = W
  obtain ⟨-, b0, -⟩ := boxed hW
  clear hW
  refine (HW.out _ b0).mono ?_; rintro e w1 ⟨u1, rfl, own1, b1⟩
  obtain ⟨H, hH⟩ : ∃ H, w.heap.size = H := ⟨_, rfl⟩
  have HH : Hid (w.heap.size = H) := hH
  have B1 : Below H w w1 := by rw [← hH]; exact bup b0 (Nat.le_refl _) b1
  have O1 : Hid (Own w1 H u1 XW) := by rw [← hH]; exact own1.mono b0.size
  rw [hH]
  clear hH own1 b0 b1 HW
  go_wp2_with fail
  refine (st_new w1 3 (by omega) (by omega)).mono ?_; rintro e w2 ⟨rfl, S2, b2⟩
  have B2 := bup B1 (Nat.le_of_eq HH.out.symm) b2
  have O2 : Hid (Own w2 H u1 XW) := O1.out.below b2
  obtain ⟨C, hC⟩ : ∃ C, w1.heap.size = C := ⟨_, rfl⟩
  have hHC : H ≤ C := by have := B1.size; rw [HH.out] at this; omega
  rw [hC] at S2
  rw [hC]
  have SS2 : Hid (StoV w2 C (C + 1) C (.slice none 0 0) (emptyR 3) q0) := S2
  clear S2 hC b2 B1 O1
  by_cases hz : E = 0
  · obtain ⟨e1, e2, e3⟩ := HE.out hz
    subst hz e1
    have HB : Hid (Bytes l) := e2
    obtain ⟨n, hn⟩ : ∃ n, l.length = n := ⟨_, rfl⟩
    have HN : Hid (l.length = n) := hn
    have HL : Hid ((sealed l).length = n + 4) := by rw [← hn]; exact sealed_len l
    rw [hn] at e3
    clear HE e2 hn
    obtain ⟨g1, cp1, rfl, g10, g11, g12, g13, -⟩ := O2.out.form (by simp [sealed, four])
    rw [HL.out] at g12 O2 ⊢
    have RS2 : Hid (Rd w2 (.slice (some ⟨g1, 0, none⟩) (n + 4) cp1) (sealed l)) := O2.out.rd
    clear O2
    have hd0 : ((n : Int) + 4 == 0) = false := by simp; omega
    have hd1 : ¬ ((n : Int) + 4 = 0) := by omega
    go_wp2_with fail
    refine (st_alive w2).mono ?_; rintro e w3 ⟨rfl, b3⟩
    have SS3 : Hid (StoV w3 C (C + 1) C (.slice none 0 0) (emptyR 3) q0) := SS2.out.below b3
    have B3 := bup B2 (Nat.le_of_eq HH.out.symm) b3
    have RS3 : Hid (Rd w3 (.slice (some ⟨g1, 0, none⟩) (n + 4) cp1) (sealed l)) := RS2.out.below b3
    have hC3 : C + 1 < w3.heap.size := SS3.out.blk.lt
    clear SS2 B2 RS2 b3
    obtain ⟨i, hi, hin⟩ := tmod_in a n
    have hi64 : wrap64 (i : Int) = (i : Int) := by unfold wrap64; omega
    have HCX : Hid (C + 1 < w3.heap.size ∧ H ≤ C) := ⟨hC3, hHC⟩
    clear hd0 hd1 hC3 hHC g13 g10 g11
    go_upto_region 6 with fail
    have HO0 : Hid (Own (w3.alloc (.cells #[] 5)) w3.heap.size (.slice (some ⟨w3.heap.size, 0, none⟩) 0 0) []) := Own.new w3 w3.heap.size (Nat.le_refl _) [] 0 rfl (by omega)
    have HR0 : Hid (Rd (w3.alloc (.cells #[] 5)) (.slice (some ⟨g1, 0, none⟩) (n + 4) cp1) (sealed l)) := RS3.out.below ((Below.refl _ w3).alloc (Nat.le_refl _) _)
    go_wp2_with (at_builtin; refine app_wp rfl _ _ rfl w3.heap.size _ [] rfl (by exact HO0.out) _ (sealed l) rfl (by exact HR0.out) (by rw [HL.out]; simp; omega) (by simp) ?_; intro u3 w4 own3 b4; rw [List.nil_append] at own3)
    have D4 : Below w3.heap.size w3 w4 := ((Below.refl _ w3).alloc (Nat.le_refl _) _).trans b4
    have HO3 : Hid (Own w4 w3.heap.size u3 (sealed l)) := own3
    obtain ⟨g, cp, rfl, g0, g1', g2, g3, -⟩ := own3.form (by intro e; have := HL.out; rw [e] at this; simp at this)
    rw [HL.out] at g2 HO3 ⊢
    clear own3 b4 HO0 HR0
    obtain ⟨j, hj⟩ : ∃ j, i / 8 = j := ⟨_, rfl⟩
    obtain ⟨r, hr⟩ : ∃ r, i % 8 = r := ⟨_, rfl⟩
    have hjn : j < n + 4 := by omega
    have hr8 : r < 8 := by omega
    have d1 : (i : Int).tdiv 8 = (j : Int) := by rw [Int.tdiv_eq_ediv_of_nonneg (by omega)]; omega
    have d2 : (i : Int) / 8 = (j : Int) := by omega
    have d3 : (i : Int).tmod 8 = (r : Int) := by rw [Int.tmod_eq_emod_of_nonneg (by omega)]; omega
    have d4 : (i : Int) % 8 = (r : Int) := by omega
    have e1 : IntKind.i64.wrap (j : Int) = (j : Int) := by rw [IntKind.wrap_i64]; omega
    have e2 : IntKind.i64.wrap (r : Int) = (r : Int) := by rw [IntKind.wrap_i64]; omega
    obtain ⟨p, hp⟩ : ∃ p : Nat, 2 ^ r = p := ⟨_, rfl⟩
    have hp1 := bit_is r hr8
    rw [hp] at hp1
    have e3' : (2 : Int) ^ r = (p : Int) := by rw [← hp]; simp
    have e4 : IntKind.u8.wrap (p : Int) = (p : Int) := by rw [IntKind.wrap_u8]; omega
    have j1 : (0 : Int) ≤ (j : Int) := by omega
    have j2 : (j : Int) < (n : Int) + 4 := by omega
    have hml : j < (sealed l).length := by rw [HL.out]; exact hjn
    have c1 := HO3.out.cell j hml
    have c2 := HO3.out.free j
    have hcb := (sealed_ok HB.out).at j
    obtain ⟨c, hcc⟩ : ∃ c, (sealed l).getD j 0 = c := ⟨_, rfl⟩
    rw [hcc] at c1 hcb
    have hx := u8_xor c (p : Int) (by omega) (by omega) (by omega) (by omega)
    rw [Int.toNat_natCast] at hx
    obtain ⟨z, hze⟩ : ∃ z, ((c.toNat ^^^ p : Nat) : Int) = z := ⟨_, rfl⟩
    have hzb : 0 ≤ z ∧ z ≤ 255 := by rw [← hze]; exact turn_byte c hcb p hp1.1
    have hzn : z ≠ (sealed l).getD j 0 := by rw [← hze, hcc]; exact turn_ne c hcb.1 p hp1.2
    have HT : Hid (openB ((sealed l).set j z) = false) := turned_no HB.out (by rw [HN.out]; exact hjn) hzb hzn
    have HTO : Hid (opened ((sealed l).set j z) = []) := opened_no HT.out
    have BT : Hid (Bytes ((sealed l).set j z)) := (sealed_ok HB.out).set j hzb
    have HTL : Hid (((sealed l).set j z).length = n + 4) := by
      have : ((sealed l).set j z).length = n + 4 := by rw [List.length_set]; exact HL.out
      exact this
    rw [hze] at hx
    clear hcc hze hzb hzn hml hp hj hr
    have c1' : w4.drew.cell? ⟨g, j, none⟩ = some (.int .u8 c) := c1
    have c2' : w4.drew.frozen? ⟨g, j, none⟩ = false := c2
    go_wp2_with fail
    refine wp_region_any (by kernel_rfl) ?_
    change wpAny _ _ _ _ _ _ _ (World.drew _)
    refine take_to (i := 0) (d := some 57) (v := .slice (some ⟨g, 0, none⟩) (n + 4) cp) rfl rfl (by kernel_rfl) (by kernel_rfl) (by kernel_rfl) (fun _ _ _ h => h) (Or.inl ⟨by rfl, fun w => by go_simp⟩) ?_
    simp only [Act.put, List.setIfInBounds_toArray, List.set_cons_zero, List.set_cons_succ]
    refine take_to (i := 1) (d := some 58) (v := .int .i64 (i : Int)) rfl rfl (by kernel_rfl) (by kernel_rfl) (by kernel_rfl) (fun _ _ _ h => h) (Or.inl ⟨by rfl, fun w => by go_simp⟩) ?_
    simp only [Act.put, List.setIfInBounds_toArray, List.set_cons_zero, List.set_cons_succ]
    refine take_to (i := 2) (d := some 59) (v := .int .i64 (j : Int)) rfl rfl (by kernel_rfl) (by kernel_rfl) (by kernel_rfl) (fun _ _ _ h => h) (Or.inl ⟨by rfl, fun w => by go_simp⟩) ?_
    simp only [Act.put, List.setIfInBounds_toArray, List.set_cons_zero, List.set_cons_succ]
    refine take_to (i := 3) (d := some 60) (v := .pointer (some ⟨g, j, none⟩)) rfl rfl (by kernel_rfl) (by kernel_rfl) (by kernel_rfl) (fun _ _ _ h => h) (Or.inl ⟨by rfl, fun w => by go_simp⟩) ?_
    simp only [Act.put, List.setIfInBounds_toArray, List.set_cons_zero, List.set_cons_succ]
    refine take_to (i := 5) (d := some 62) (v := .int .i64 (i : Int)) rfl rfl (by kernel_rfl) (by kernel_rfl) (by kernel_rfl) (fun _ _ _ h => h) (Or.inl ⟨by rfl, fun w => by go_simp⟩) ?_
    simp only [Act.put, List.setIfInBounds_toArray, List.set_cons_zero, List.set_cons_succ]
    refine take_to (i := 6) (d := some 63) (v := .int .i64 (r : Int)) rfl rfl (by kernel_rfl) (by kernel_rfl) (by kernel_rfl) (fun _ _ _ h => h) (Or.inl ⟨by rfl, fun w => by go_simp⟩) ?_
    simp only [Act.put, List.setIfInBounds_toArray, List.set_cons_zero, List.set_cons_succ]
    refine take_to (i := 7) (d := some 64) (v := .int .u8 (p : Int)) rfl rfl (by kernel_rfl) (by kernel_rfl) (by kernel_rfl) (fun _ _ _ h => h) (Or.inl ⟨by rfl, fun w => by go_simp⟩) ?_
    simp only [Act.put, List.setIfInBounds_toArray, List.set_cons_zero, List.set_cons_succ]
    refine wpAny_ready (rs := [4]) (by kernel_rfl) (by simp) ?_
    refine AllReady.cons rfl (fun K hK => ?_) AllReady.nil
    go_simp
    refine hK _ _ ?_; clear hK K
    refine take_to (i := 8) (d := some 65) (v := .int .u8 z) rfl rfl (by kernel_rfl) (by kernel_rfl) (by kernel_rfl) (fun _ _ _ h => h) (Or.inl ⟨by rfl, fun w => by go_simp⟩) ?_
    simp only [Act.put, List.setIfInBounds_toArray, List.set_cons_zero, List.set_cons_succ]
    refine take_to (i := 9) (d := some 66) (v := .pointer (some ⟨g, j, none⟩)) rfl rfl (by kernel_rfl) (by kernel_rfl) (by kernel_rfl) (fun _ _ _ h => h) (Or.inl ⟨by rfl, fun w => by go_simp⟩) ?_
    simp only [Act.put, List.setIfInBounds_toArray, List.set_cons_zero, List.set_cons_succ]
    refine wpAny_ready (rs := [10]) (by kernel_rfl) (by simp) ?_
    refine AllReady.cons rfl (fun K hK => ?_) AllReady.nil
    go_simp
    refine hK _ _ ?_; clear hK K
    refine wpAny_done (by kernel_rfl) ?_ _
    obtain ⟨w5, e5⟩ : ∃ w5, (w4.setCell ⟨g, j, none⟩ (.int .u8 z)).drew = w5 := ⟨_, rfl⟩
    have D5 : Below w3.heap.size w3 w5 := by rw [← e5]; exact (D4.setCell g0 _).drew
    have HO5 : Hid (Own w5 w3.heap.size (.slice (some ⟨g, 0, none⟩) (n + 4) cp) ((sealed l).set j z)) := by rw [← e5]; exact HO3.out.store j z
    rw [e5]
    obtain ⟨hC3, hHC⟩ := HCX.out
    have SS5 : Hid (StoV w5 C (C + 1) C (.slice none 0 0) (emptyR 3) q0) := SS3.out.below D5
    have B5 := bup B3 (Nat.le_of_eq HH.out.symm) D5
    clear e5 HO3 c1 c2 c1' c2' hx e1 e2 e3' D4 SS3 B3 RS3 D5
    go_wp2_with fail
    refine (st_accept w5 C (C + 1) C _ _ q0 SS5.out (by decide) _ _ BT.out (by rw [HTL.out]; omega) HO5.out.rd).mono ?_; rintro e w6 ⟨rfl, v6, rs6, S6, C6⟩
    obtain ⟨t1, t2, t3⟩ := bad_is (s := q0) (x := (sealed l).set j z) (by rw [HTL.out]; omega) HT.out
    rw [t1, t2]
    have SS6 : Hid (StoV w6 C (C + 1) C v6 rs6 q1) := by
      rw [t3] at S6
      exact S6
    have O6 := HO5.out.chs C6 (fun x hx => by
      have h1 := HO5.out.own_ge x hx
      exact ⟨by omega, by omega, by simp [Value.ownBlock]⟩)
    have HO6 : Hid (Own w6 w3.heap.size (.slice (some ⟨g, 0, none⟩) (n + 4) cp) ((sealed l).set j z)) := O6.1
    have B6 : Below H w w6 := B5.trans (C6.below.mono hHC)
    clear t1 t2 t3 S6 C6 O6 HO5 SS5 B5
    go_wp2_with fail
    refine (open_any _ _ _ BT.out HO6.out.rd (by rw [HTL.out]; omega)).mono ?_; rw [HT.out, HTO.out]; rintro e w7 ⟨u7, rfl, own7, b7⟩
    have SS7 : Hid (StoV w7 C (C + 1) C v6 rs6 q1) := SS6.out.below b7
    have B7 := bup B6 (Nat.le_of_eq HH.out.symm) b7
    obtain ⟨ao7, cp7, rfl, -⟩ := own7.rd
    clear own7 b7 SS6 B6 HO6
    go_wp2_with fail
    refine (st_accept w7 C (C + 1) C _ _ q1 SS7.out (by decide) (.slice none 0 0) [] (fun x hx => by simp at hx) (by simp) ⟨none, 0, rfl, Nat.le_refl _, by omega, fun _ => rfl, Or.inl rfl⟩).mono ?_; rintro e w8 ⟨rfl, v8, rs8, S8, C8⟩
    obtain ⟨t1, t2, t3⟩ := bad_is (s := q1) (x := []) (by simp) (by rfl)
    rw [t1, t2]
    have SS8 : Hid (StoV w8 C (C + 1) C v8 rs8 q2) := by
      rw [t3] at S8
      exact S8
    have B8 : Below H w w8 := B7.trans (C8.below.mono hHC)
    clear t1 t2 t3 S8 C8 SS7 B7
    go_wp2_with fail
    refine (st_refused w8 C (C + 1) C v8 rs8 q2 SS8.out 9 (by omega) (by omega)).mono ?_; rintro e w9 ⟨rfl, rfl⟩
    have e9 : q2.N.getD 9 0 = 2 := rfl
    rw [e9]
    clear e9
    go_wp2_with fail
    refine (st_len w9 C (C + 1) C v8 rs8 q2 SS8.out).mono ?_; rintro e w10 ⟨rfl, rfl⟩
    have e9 : ((q2.L.length : Nat) : Int) = 0 := rfl
    rw [e9]
    clear e9
    go_wp2_with fail
    refine (st_taken w10 C (C + 1) C v8 rs8 q2 SS8.out).mono ?_; rintro e w11 ⟨rfl, rfl⟩
    have e9 : q2.N.getD 0 0 = 0 := rfl
    rw [e9]
    clear e9
    go_wp2_with fail
    go_ret
    exact ⟨rfl, by rw [HH.out]; exact B8⟩
  · have hq : (E != 0) = true := by simpa using hz
    go_wp2_with fail
    refine (st_alive w2).mono ?_; rintro e w3 ⟨rfl, b3⟩
    go_wp2_with fail
    go_ret
    exact ⟨rfl, by rw [HH.out]; exact bup B2 (Nat.le_of_eq HH.out.symm) b3⟩

set_option maxRecDepth 100000 in
theorem lifted (os : Os) (started : os.Started) (H : Type) (enc : TypeId × Value → H) :
    ReturnsInHanded {} Tryz.checked os 7 .any (Rows.storeSumsSpec.pre6 enc Tryz.prog Tryz.f7 Rows.storeSumsRow.domain false) (Rows.storeSumsSpec.post enc Tryz.prog Tryz.f7 false true false false) := by
  refine returnsInHanded_of_change (C := Tryz.checked) own started (by kernel_rfl) Tryz.func7
    (ChangeSpec.witness6 (enc := enc) (C := Tryz.checked) false ⟨#[], #[.agg #[.int .i64 0, .int .i64 0, .int .i64 0, .slice none 0 0], .int .i64 0], []⟩ 8 (by kernel_rfl) (by kernel_rfl) (by kernel_rfl) (by kernel_rfl)) ?_
  intro W base args ds gs before hval0 hW hcnd _
  have hval : ∀ (j : Nat) t v, Tryz.f7.params[j]? = some t → args[j]? = some v → Value.okWide Tryz.prog W .any base t v := hval0
  have hW' := hW
  obtain ⟨p, q, hA0, hV, rfl, hfz, hnd⟩ := hW
  have hA : DataW.TrodAll enc Tryz.prog W 0 (fun _ => true) true Tryz.f7.params.toList args.toList ds p := hA0
  rw [Tryz.params7] at hA hval
  obtain ⟨v0, vs0, d0, ds0, p0, q0, hargs, rfl, rfl, h0, r0⟩ := trodAll_cons hA
  obtain ⟨v1, vs1, d1, ds1, p1, q1, rfl, rfl, rfl, h1, r1⟩ := trodAll_cons r0
  obtain ⟨rfl, rfl, rfl⟩ := trodAll_nil r1
  obtain rfl : args = #[v0, v1] := by cases args; simp_all
  obtain ⟨rfl, rfl⟩ := trodVars_none hV
  have hlt := hW'.lt
  have k0 := h0
  obtain ⟨g0, u0, n0, A0, e0, ok0, b0, rd0⟩ := open_gram (hval 0 57 v0 rfl rfl) h0
  subst e0
  have k1 := h1
  obtain ⟨a1, rfl, rfl, rfl, w1⟩ := open_int Tryz.underlying3 (hval 1 3 v1 rfl rfl) h1
  clear hA0 hval0
  refine (walk W g0 ok0 u0 n0 A0 b0 rd0 a1 w1).mono fun e W' ⟨he, hg⟩ => ?_
  subst he
  exact ⟨_, rfl, post_of_below hW' (fun _ _ _ => (trodAll_cons_mk (shut_bool Tryz.underlying4 _) trodAll_mk0)) (trodAll_cons_mk (Below.trod laidOut (by kernel_rfl) (of_decide_eq_true (by kernel_rfl)) k0 hg (fun x hx => by first | exact absurd hx (by simp) | exact hlt x (by simp [hx]))) (trodAll_cons_mk (Below.trod laidOut (by kernel_rfl) (of_decide_eq_true (by kernel_rfl)) k1 hg (fun x hx => by first | exact absurd hx (by simp) | exact hlt x (by simp [hx]))) trodAll_mk0)) rfl hg⟩

theorem over : Rows.storeSumsRow.holds Tryz.pinned (OpenSpec.ofChange Rows.storeSumsSpec) :=
  OpenClaim.holds_of_wide 7 Tryz.f7 rfl rfl rfl rfl rfl rfl rfl ⟨rfl, rfl, rfl, rfl, rfl⟩ rfl rfl rfl rfl rfl (by kernel_rfl) Tryz.func7 (by kernel_rfl)
    (of_decide_eq_true (by kernel_rfl)) (by unfold Func.isWrapper; first | (rw [if_pos (by decide +kernel)]; kernel_rfl) | (rw [if_neg (by decide +kernel)]; exact ⟨rfl, rfl⟩))
    (fun os started H enc _ => lifted os started H enc)
end StoreSumsL

theorem storeSums_proved : Rows.StoreSumsSaid := StoreSumsL.over
#print axioms storeSums_proved
end Go.Proofs.YtggninahglfcpaaGreat
