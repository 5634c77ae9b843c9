/-
  Proved: what is sealed is opened; with one bit turned anywhere it isn't (the law CrcTurns answers true at every input).
  Conditions: none.
-/
import Derived.Test.YthofloblheodbaaRows
import Derived.Test.YthofloblheodbaaFr
import Derived.Test.YthofloblheodbaaSz
import Derived.Test.YthofloblheodbaaCrc7
import Derived.Test.YthofloblheodbaaReg
namespace Go.Proofs.Ythofloblheodbaa
open Go.ChangeShapes Go.WideShapes Go.ChangeAt Go.RowKit
set_option linter.unusedVariables false

namespace CrcTurnsL
theorem own : ownKnob Try.prog.godebug = none := by kernel_rfl

theorem tmod_in (a : Int) (n : Nat) : ∃ i : Nat, (IntKind.u64.wrap a).tmod (8 * ((n : Int) + 4)) = (i : Int) ∧ i < 8 * (n + 4) := by
  have h0 : 0 ≤ IntKind.u64.wrap a := by rw [IntKind.wrap_u64]; omega
  rw [Int.tmod_eq_emod_of_nonneg h0]
  have h1 := Int.emod_nonneg (IntKind.u64.wrap a) (show 8 * ((n : Int) + 4) ≠ 0 by omega)
  have h2 := Int.emod_lt_of_pos (IntKind.u64.wrap a) (show (0 : Int) < 8 * ((n : Int) + 4) by omega)
  exact ⟨((IntKind.u64.wrap a) % (8 * ((n : Int) + 4))).toNat, by omega, by omega⟩
theorem bit_is (r : Nat) (h : r < 8) : 2 ^ r < 256 ∧ 2 ^ r ≠ 0 := by
  rcases (show r = 0 ∨ r = 1 ∨ r = 2 ∨ r = 3 ∨ r = 4 ∨ r = 5 ∨ r = 6 ∨ r = 7 by omega) with rfl | rfl | rfl | rfl | rfl | rfl | rfl | rfl <;> decide
set_option maxHeartbeats 2000000 in
theorem walk (w : World) (v : Value) (l : List Int) (hb : Bytes l) (h : Rd w v l) (hsz : l.length ≤ 140737488351232) (a : Int) (va : (Lit.int .i64 a).wf = true) :
    Calls Try.prog 5 #[v, .int .i64 a] w fun e w' => e = .returned (.bool true) ∧ Below w.heap.size w w' := by
  obtain ⟨a0, a1⟩ := wf_i64 va
  clear va
  have HB : Hid (Bytes l) := hb
  have H : Hid (Rd w v l) := h
  obtain ⟨ao, cap, rfl, hc, hm, hz, h3⟩ := h
  obtain ⟨n, hn⟩ : ∃ n, l.length = n := ⟨_, rfl⟩
  rw [hn] at hc H hsz ⊢
  have HN := (show Hid _ from hn)
  have HL : Hid ((sealed l).length = n + 4) := by rw [← hn]; exact sealed_len l
  clear hb h3 hz hn
  go_enter Try.func5, Try.ntmps5
  go_wp2_with fail
  refine (seal_any _ _ l HB.out H.out (by rw [HN.out]; omega)).mono ?_; rintro e w1 ⟨u1, rfl, own1, b1⟩
  have HO : Hid (Own w1 w.heap.size u1 (sealed l)) := own1
  obtain ⟨g1, cp1, rfl, g10, g11, g12, g13, -⟩ := own1.form (by simp [four])
  rw [show (l ++ four (sum l)).length = n + 4 from HL.out] at g12 ⊢
  rw [show (l ++ four (sum l)).length = n + 4 from HL.out] at HO
  clear own1
  have RS : Hid (Rd w1 (.slice (some ⟨g1, 0, none⟩) (n + 4) cp1) (sealed l)) := HO.out.rd
  have RL : Hid (Rd w1 (.slice ao n cap) l) := H.out.below b1
  by_cases hbig : 3000 < n
  · go_wp2_with fail
    refine (alive_any _).mono ?_; rintro e w2 ⟨rfl, b2⟩
    go_wp2_with fail
    go_ret
    exact ⟨rfl, bthen b1 b2⟩
  · have BS : Hid (Bytes (sealed l)) := sealed_ok HB.out
    obtain ⟨i, hi, hin⟩ := tmod_in a n
    have hi64 : wrap64 (i : Int) = (i : Int) := by unfold wrap64; omega
    go_wp2_with fail
    refine (open_any _ _ _ BS.out RS.out (by rw [HL.out]; omega)).mono ?_; rw [sealed_open, sealed_opened]; rintro e w2 ⟨u2, rfl, own2, b2⟩
    have D2 := bthen b1 b2
    have RX : Hid (Rd w2 u2 l) := own2.rd
    have RS2 : Hid (Rd w2 _ (sealed l)) := RS.out.below b2
    have RL2 : Hid (Rd w2 _ l) := RL.out.below b2
    clear own2
    have HO0 : Hid (Own (w2.alloc (.cells #[] 5)) w2.heap.size (.slice (some ⟨w2.heap.size, 0, none⟩) 0 0) []) := Own.new w2 w2.heap.size (Nat.le_refl _) [] 0 rfl (by omega)
    have HR0 : Hid (Rd (w2.alloc (.cells #[] 5)) (.slice (some ⟨g1, 0, none⟩) (n + 4) cp1) (sealed l)) := RS2.out.below ((Below.refl _ w2).alloc (Nat.le_refl _) _)
    go_wp2_with (at_builtin; refine app_wp rfl _ _ rfl w2.heap.size _ [] rfl (by exact HO0.out) _ (sealed l) rfl (by exact HR0.out) (by rw [HL.out]; simp; omega) (by simp) ?_; intro u3 w3 own3 b3; rw [List.nil_append] at own3)
    have D3 : Below w2.heap.size w2 w3 := ((Below.refl _ w2).alloc (Nat.le_refl _) _).trans b3
    have RX3 : Hid (Rd w3 u2 l) := RX.out.below D3
    have RL3 : Hid (Rd w3 (.slice ao n cap) l) := RL2.out.below D3
    have HO3 : Hid (Own w3 w2.heap.size u3 (sealed l)) := own3
    obtain ⟨g, cp, rfl, g0, g1', g2, g3, -⟩ := own3.form (by intro e; have := HL.out; rw [e] at this; simp at this)
    rw [HL.out] at g2 HO3 ⊢
    clear own3 b3 HO0 HR0
    obtain ⟨j, hj⟩ : ∃ j, i / 8 = j := ⟨_, rfl⟩
    obtain ⟨r, hr⟩ : ∃ r, i % 8 = r := ⟨_, rfl⟩
    have hjn : j < n + 4 := by omega
    have hr8 : r < 8 := by omega
    have d1 : (i : Int).tdiv 8 = (j : Int) := by rw [Int.tdiv_eq_ediv_of_nonneg (by omega)]; omega
    have d2 : (i : Int) / 8 = (j : Int) := by omega
    have d3 : (i : Int).tmod 8 = (r : Int) := by rw [Int.tmod_eq_emod_of_nonneg (by omega)]; omega
    have d4 : (i : Int) % 8 = (r : Int) := by omega
    have e1 : IntKind.i64.wrap (j : Int) = (j : Int) := by rw [IntKind.wrap_i64]; omega
    have e2 : IntKind.i64.wrap (r : Int) = (r : Int) := by rw [IntKind.wrap_i64]; omega
    obtain ⟨p, hp⟩ : ∃ p : Nat, 2 ^ r = p := ⟨_, rfl⟩
    have hp1 := bit_is r hr8
    rw [hp] at hp1
    have e3 : (2 : Int) ^ r = (p : Int) := by rw [← hp]; simp
    have e4 : IntKind.u8.wrap (p : Int) = (p : Int) := by rw [IntKind.wrap_u8]; omega
    have j1 : (0 : Int) ≤ (j : Int) := by omega
    have j2 : (j : Int) < (n : Int) + 4 := by omega
    have hml : j < (sealed l).length := by rw [HL.out]; exact hjn
    have c1 := HO3.out.cell j hml
    have c2 := HO3.out.free j
    have hcb := (sealed_ok HB.out).at j
    obtain ⟨c, hcc⟩ : ∃ c, (sealed l).getD j 0 = c := ⟨_, rfl⟩
    rw [hcc] at c1 hcb
    have hx := u8_xor c (p : Int) (by omega) (by omega) (by omega) (by omega)
    rw [Int.toNat_natCast] at hx
    obtain ⟨z, hze⟩ : ∃ z, ((c.toNat ^^^ p : Nat) : Int) = z := ⟨_, rfl⟩
    have hzb : 0 ≤ z ∧ z ≤ 255 := by rw [← hze]; exact turn_byte c hcb p hp1.1
    have hzn : z ≠ (sealed l).getD j 0 := by rw [← hze, hcc]; exact turn_ne c hcb.1 p hp1.2
    have HT : Hid (openB ((sealed l).set j z) = false) := turned_no HB.out (by rw [HN.out]; exact hjn) hzb hzn
    have HTO : Hid (opened ((sealed l).set j z) = []) := opened_no HT.out
    have BT : Hid (Bytes ((sealed l).set j z)) := (sealed_ok HB.out).set j hzb
    have HTL : Hid (((sealed l).set j z).length = n + 4) := by
      have : ((sealed l).set j z).length = n + 4 := by rw [List.length_set]; exact HL.out
      exact this
    rw [hze] at hx
    clear hcc hze hzb hzn hml hp hj hr
    have c1' : w3.drew.cell? ⟨g, j, none⟩ = some (.int .u8 c) := c1
    have c2' : w3.drew.frozen? ⟨g, j, none⟩ = false := c2
    go_wp2_with fail
    refine wp_region_any (by kernel_rfl) ?_
    change wpAny _ _ _ _ _ _ _ (World.drew _)
    refine take_to (i := 0) (d := some 47) (v := .slice (some ⟨g, 0, none⟩) (n + 4) cp) rfl rfl (by kernel_rfl) (by kernel_rfl) (by kernel_rfl) (fun _ _ _ h => h) (Or.inl ⟨by rfl, fun w => by go_simp⟩) ?_
    simp only [Act.put, List.setIfInBounds_toArray, List.set_cons_zero, List.set_cons_succ]
    refine take_to (i := 1) (d := some 48) (v := .int .i64 (i : Int)) rfl rfl (by kernel_rfl) (by kernel_rfl) (by kernel_rfl) (fun _ _ _ h => h) (Or.inl ⟨by rfl, fun w => by go_simp⟩) ?_
    simp only [Act.put, List.setIfInBounds_toArray, List.set_cons_zero, List.set_cons_succ]
    refine take_to (i := 2) (d := some 49) (v := .int .i64 (j : Int)) rfl rfl (by kernel_rfl) (by kernel_rfl) (by kernel_rfl) (fun _ _ _ h => h) (Or.inl ⟨by rfl, fun w => by go_simp⟩) ?_
    simp only [Act.put, List.setIfInBounds_toArray, List.set_cons_zero, List.set_cons_succ]
    refine take_to (i := 3) (d := some 50) (v := .pointer (some ⟨g, j, none⟩)) rfl rfl (by kernel_rfl) (by kernel_rfl) (by kernel_rfl) (fun _ _ _ h => h) (Or.inl ⟨by rfl, fun w => by go_simp⟩) ?_
    simp only [Act.put, List.setIfInBounds_toArray, List.set_cons_zero, List.set_cons_succ]
    refine take_to (i := 5) (d := some 52) (v := .int .i64 (i : Int)) rfl rfl (by kernel_rfl) (by kernel_rfl) (by kernel_rfl) (fun _ _ _ h => h) (Or.inl ⟨by rfl, fun w => by go_simp⟩) ?_
    simp only [Act.put, List.setIfInBounds_toArray, List.set_cons_zero, List.set_cons_succ]
    refine take_to (i := 6) (d := some 53) (v := .int .i64 (r : Int)) rfl rfl (by kernel_rfl) (by kernel_rfl) (by kernel_rfl) (fun _ _ _ h => h) (Or.inl ⟨by rfl, fun w => by go_simp⟩) ?_
    simp only [Act.put, List.setIfInBounds_toArray, List.set_cons_zero, List.set_cons_succ]
    refine take_to (i := 7) (d := some 54) (v := .int .u8 (p : Int)) rfl rfl (by kernel_rfl) (by kernel_rfl) (by kernel_rfl) (fun _ _ _ h => h) (Or.inl ⟨by rfl, fun w => by go_simp⟩) ?_
    simp only [Act.put, List.setIfInBounds_toArray, List.set_cons_zero, List.set_cons_succ]
    refine wpAny_ready (rs := [4]) (by kernel_rfl) (by simp) ?_
    refine AllReady.cons rfl (fun K hK => ?_) AllReady.nil
    go_simp
    refine hK _ _ ?_; clear hK K
    refine take_to (i := 8) (d := some 55) (v := .int .u8 z) rfl rfl (by kernel_rfl) (by kernel_rfl) (by kernel_rfl) (fun _ _ _ h => h) (Or.inl ⟨by rfl, fun w => by go_simp⟩) ?_
    simp only [Act.put, List.setIfInBounds_toArray, List.set_cons_zero, List.set_cons_succ]
    refine take_to (i := 9) (d := some 56) (v := .pointer (some ⟨g, j, none⟩)) rfl rfl (by kernel_rfl) (by kernel_rfl) (by kernel_rfl) (fun _ _ _ h => h) (Or.inl ⟨by rfl, fun w => by go_simp⟩) ?_
    simp only [Act.put, List.setIfInBounds_toArray, List.set_cons_zero, List.set_cons_succ]
    refine wpAny_ready (rs := [10]) (by kernel_rfl) (by simp) ?_
    refine AllReady.cons rfl (fun K hK => ?_) AllReady.nil
    go_simp
    refine hK _ _ ?_; clear hK K
    refine wpAny_done (by kernel_rfl) ?_ _
    obtain ⟨w4, e4⟩ : ∃ w4, (w3.setCell ⟨g, j, none⟩ (.int .u8 z)).drew = w4 := ⟨_, rfl⟩
    have D4 : Below w2.heap.size w2 w4 := by rw [← e4]; exact (D3.setCell g0 _).drew
    have HO4 : Hid (Own w4 w2.heap.size (.slice (some ⟨g, 0, none⟩) (n + 4) cp) ((sealed l).set j z)) := by rw [← e4]; exact HO3.out.store j z
    rw [e4]
    have RT4 : Hid (Rd w4 _ ((sealed l).set j z)) := HO4.out.rd
    have RX4 : Hid (Rd w4 u2 l) := RX.out.below D4
    have RL4 : Hid (Rd w4 (.slice ao n cap) l) := RL2.out.below D4
    have F4 := D2.trans (D4.mono D2.size)
    obtain ⟨s, hs⟩ : ∃ s, strOfNums l = s := ⟨_, rfl⟩
    have HS := (show Hid _ from hs)
    clear e4 hs HO4 HO3 RX3 RL3 c1 c2 c1' c2' hx e1 e2 e3 D3
    go_wp2_with fail
    refine (open_any _ _ _ BT.out RT4.out (by rw [HTL.out]; omega)).mono ?_; rw [HT.out, HTO.out]; rintro e w5 ⟨u5, rfl, own5, b5⟩
    have F5 := bup F4 (Nat.le_refl _) b5
    obtain ⟨ao5, cp5, rfl, -⟩ := own5.rd
    have RX5 : Hid (Rd w5 u2 l) := RX4.out.below b5
    have RL5 : Hid (Rd w5 (.slice ao n cap) l) := RL4.out.below b5
    clear own5 b5
    go_wp2_with fail
    refine (alive_any _).mono ?_; rintro e w6 ⟨rfl, b6⟩
    have F6 := bup F5 (Nat.le_refl _) b6
    have s1 := str_run (RX5.out.below b6)
    have s2 := str_run (RL5.out.below b6)
    rw [HS.out] at s1 s2
    go_wp2_with fail
    go_ret
    exact ⟨rfl, F6⟩

set_option maxRecDepth 100000 in
theorem lifted (os : Os) (started : os.Started) (H : Type) (enc : TypeId × Value → H) :
    ReturnsInHanded {} Try.checked os 5 .any (Rows.crcTurnsSpec.pre6 enc Try.prog Try.f5 Rows.crcTurnsRow.domain false) (Rows.crcTurnsSpec.post enc Try.prog Try.f5 false true false false) := by
  refine returnsInHanded_of_change_sized (C := Try.checked) own started (by kernel_rfl) Try.func5
    (ChangeSpec.witness6 (enc := enc) (C := Try.checked) false ⟨#[], #[.slice none 0 0, .int .i64 0], []⟩ 8 (by kernel_rfl) (by kernel_rfl) (by kernel_rfl) (by kernel_rfl)) ?_
  intro W base args ds gs before hval0 hW hcnd hsz0 _
  have hval : ∀ (j : Nat) t v, Try.f5.params[j]? = some t → args[j]? = some v → Value.okWide Try.prog W .any base t v := hval0
  have hW' := hW
  obtain ⟨p, q, hA0, hV, rfl, hfz, hnd⟩ := hW
  have hA : DataW.TrodAll enc Try.prog W 0 (fun _ => true) true Try.f5.params.toList args.toList ds p := hA0
  rw [Try.params5] at hA hval
  have hsz : (DataW.weightsEach Try.prog (Try.f5.params.toList ++ Rows.crcTurnsSpec.plain.varTypes Try.prog) (ds ++ gs)).all (· ≤ reachBytes) = true := hsz0
  clear hsz0
  rw [Try.params5] at hsz
  obtain ⟨v0, vs0, d0, ds0, p0, q0, hargs, rfl, rfl, h0, r0⟩ := trodAll_cons hA
  obtain ⟨v1, vs1, d1, ds1, p1, q1, rfl, rfl, rfl, h1, r1⟩ := trodAll_cons r0
  obtain ⟨rfl, rfl, rfl⟩ := trodAll_nil r1
  obtain rfl : args = #[v0, v1] := by cases args; simp_all
  obtain ⟨rfl, rfl⟩ := trodVars_none hV
  have hlt := hW'.lt
  have k0 := h0
  obtain ⟨l0, b0, e0⟩ := open_u8s (hval 0 22 v0 rfl rfl) h0
  have z0 := size_u8s hsz (j := 0) rfl rfl k0 e0
  have k1 := h1
  obtain ⟨a1, rfl, rfl, rfl, w1⟩ := open_int Try.underlying3 (hval 1 3 v1 rfl rfl) h1
  clear hA0 hval0
  refine (walk W v0 l0 b0 e0 z0 a1 w1).mono fun e W' ⟨he, hg⟩ => ?_
  subst he
  exact ⟨_, rfl, post_of_below hW' (fun _ _ _ => (trodAll_cons_mk (shut_bool Try.underlying4 _) trodAll_mk0)) (trodAll_cons_mk (Below.trod laidOut (by kernel_rfl) (of_decide_eq_true (by kernel_rfl)) k0 hg (fun x hx => by first | exact absurd hx (by simp) | exact hlt x (by simp [hx]))) (trodAll_cons_mk (Below.trod laidOut (by kernel_rfl) (of_decide_eq_true (by kernel_rfl)) k1 hg (fun x hx => by first | exact absurd hx (by simp) | exact hlt x (by simp [hx]))) trodAll_mk0)) rfl hg⟩

theorem over : Rows.crcTurnsRow.holds Try.pinned (OpenSpec.ofChange Rows.crcTurnsSpec) :=
  OpenClaim.holds_of_wide 5 Try.f5 rfl rfl rfl rfl rfl rfl rfl ⟨rfl, rfl, rfl, rfl, rfl⟩ rfl rfl rfl rfl rfl (by kernel_rfl) Try.func5 (by kernel_rfl)
    (of_decide_eq_true (by kernel_rfl)) (by unfold Func.isWrapper; first | (rw [if_pos (by decide +kernel)]; kernel_rfl) | (rw [if_neg (by decide +kernel)]; exact ⟨rfl, rfl⟩))
    (fun os started H enc _ => lifted os started H enc)
end CrcTurnsL

theorem crcTurns_proved : Rows.CrcTurnsSaid := CrcTurnsL.over
#print axioms crcTurns_proved
end Go.Proofs.Ythofloblheodbaa
