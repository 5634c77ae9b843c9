/-
  Proved: bytes that differ in up to four neighbours have other sums, also with more bytes behind (the law CrcUnlike answers true at every input).
  Conditions: none.
-/
import Derived.Test.YthofloblheodbaaRows
import Derived.Test.YthofloblheodbaaFr
import Derived.Test.YthofloblheodbaaCrc7
import Derived.Test.YthofloblheodbaaReg
namespace Go.Proofs.Ythofloblheodbaa
open Go.ChangeShapes Go.WideShapes Go.ChangeAt Go.RowKit
set_option linter.unusedVariables false

namespace CrcUnlikeL
theorem own : ownKnob Try.prog.godebug = none := by kernel_rfl

theorem tmod_in (a : Int) (n : Nat) (h : 4 ≤ n) : ∃ i : Nat, (IntKind.u64.wrap a).tmod ((n : Int) - 3) = (i : Int) ∧ i + 4 ≤ n := by
  have h0 : 0 ≤ IntKind.u64.wrap a := by rw [IntKind.wrap_u64]; omega
  rw [Int.tmod_eq_emod_of_nonneg h0]
  have h1 := Int.emod_nonneg (IntKind.u64.wrap a) (show (n : Int) - 3 ≠ 0 by omega)
  have h2 := Int.emod_lt_of_pos (IntKind.u64.wrap a) (show (0 : Int) < (n : Int) - 3 by omega)
  exact ⟨((IntKind.u64.wrap a) % ((n : Int) - 3)).toNat, by omega, by omega⟩
theorem sum_more {l t : List Int} (hl : Bytes l) (ht : Bytes t) (h : sum t ≠ sum l) : more (sum t) [1, 2, 3] ≠ more (sum l) [1, 2, 3] := fun e =>
  h (more_inj (by intro b hb; simp only [List.mem_cons, List.not_mem_nil, or_false] at hb; omega) (sum_lt ht) (sum_lt hl) e)
theorem xor_is (c : Int) (hc : 0 ≤ c ∧ c ≤ 255) (y k : Nat) : bits .xor .u8 c ((y : Int) / 2 ^ (8 * k) % 256) = ((c.toNat ^^^ (y / 2 ^ (8 * k) % 256) : Nat) : Int) := by
  have e : (y : Int) / 2 ^ (8 * k) % 256 = ((y / 2 ^ (8 * k) % 256 : Nat) : Int) := by simp
  rw [e, u8_xor c _ (by omega) (by omega) (by omega) (by omega), Int.toNat_natCast]
theorem beq_no {a b : Nat} (h : a ≠ b) : ((a : Int) == (b : Int)) = false := by simp; omega
set_option maxHeartbeats 2000000 in
theorem walk (w : World) (v : Value) (l : List Int) (hb : Bytes l) (h : Rd w v l) (a : Int) (va : (Lit.int .i64 a).wf = true) (y0 : Int) (vy : (Lit.int .u32 y0).wf = true) :
    Calls Try.prog 7 #[v, .int .i64 a, .int .u32 y0] w fun e w' => e = .returned (.bool true) ∧ Below w.heap.size w w' := by
  obtain ⟨a0, a1⟩ := wf_i64 va
  obtain ⟨y, rfl⟩ : ∃ y : Nat, y0 = (y : Int) := ⟨y0.toNat, by have := bounds_u32 vy; omega⟩
  have y1 : y ≤ 4294967295 := by have := bounds_u32 vy; omega
  clear va vy
  have HB : Hid (Bytes l) := hb
  have H : Hid (Rd w v l) := h
  obtain ⟨ao, cap, rfl, hc, hm, hz, h3⟩ := h
  obtain ⟨n, hn⟩ : ∃ n, l.length = n := ⟨_, rfl⟩
  rw [hn] at hc H ⊢
  have HN := (show Hid _ from hn)
  clear hb h3 hz hn
  by_cases h4 : n < 4
  · go_enter Try.func7, Try.ntmps7
    go_wp2_with fail
    refine (alive_any _).mono ?_; rintro e w1 ⟨rfl, b1⟩
    go_wp2_with fail
    go_ret
    exact ⟨rfl, b1⟩
  by_cases h2 : 2000 < n
  · go_enter Try.func7, Try.ntmps7
    go_wp2_with fail
    refine (alive_any _).mono ?_; rintro e w1 ⟨rfl, b1⟩
    go_wp2_with fail
    go_ret
    exact ⟨rfl, b1⟩
  by_cases h0 : y = 0
  · subst h0
    go_enter Try.func7, Try.ntmps7
    go_wp2_with fail
    refine (alive_any _).mono ?_; rintro e w1 ⟨rfl, b1⟩
    go_wp2_with fail
    go_ret
    exact ⟨rfl, b1⟩
  · have q3 : ((y : Int) == 0) = false := by simp; omega
    obtain ⟨i, hi, hin⟩ := tmod_in a n (by omega)
    have hl : l ≠ [] := by intro h; rw [h] at HN; have := HN.out; simp at this; omega
    have HO : Hid (Own (w.alloc (.cells #[] 5)) w.heap.size (.slice (some ⟨w.heap.size, 0, none⟩) 0 0) []) := Own.new w w.heap.size (Nat.le_refl _) [] 0 rfl (by omega)
    have HR : Hid (Rd (w.alloc (.cells #[] 5)) (.slice ao n cap) l) := H.out.below ((Below.refl _ w).alloc (Nat.le_refl _) _)
    have hi64 : wrap64 (i : Int) = (i : Int) := by unfold wrap64; omega
    go_enter Try.func7, Try.ntmps7
    go_wp2_with (at_builtin; refine app_wp rfl _ _ rfl w.heap.size _ [] rfl (by exact HO.out) _ l rfl (by exact HR.out) (by rw [HN.out]; simp; omega) (by simp) ?_; intro u1 w1 own1 b1; rw [List.nil_append] at own1; have HP : Hid (∃ g cp, u1 = .slice (some ⟨g, 0, none⟩) l.length cp ∧ w.heap.size ≤ g ∧ g < w1.heap.size ∧ l.length ≤ cp ∧ cp ≤ 9223372036854775807 ∧ At w1 g 0 l) := own1.form hl; have HW : Hid (Own w1 w.heap.size u1 l) := own1; clear own1)
    have B1 : Below w.heap.size w w1 := ((Below.refl _ w).alloc (Nat.le_refl _) _).trans b1
    obtain ⟨g, cp, rfl, g0, g1, g2, g3, -⟩ := HP.out
    rw [HN.out] at g2 HW ⊢
    clear HP b1 HO HR
    go_loopw [34] (fun x wr => ∃ k : Nat, k ≤ 4 ∧ x = .int .i64 k ∧ Own wr w.heap.size (.slice (some ⟨g, 0, none⟩) n cp) (mess l i y k) ∧ Below w.heap.size w wr) (fun x _ => 4 - (intOf x).toNat)
    case atStart => exact ⟨0, Nat.zero_le _, rfl, HW.out, B1⟩
    case round =>
      obtain ⟨k, hk, rfl, hO, hbl⟩ := hrel
      have HO : Hid (Own wr w.heap.size (.slice (some ⟨g, 0, none⟩) n cp) (mess l i y k)) := hO
      by_cases hlt : k < 4
      · have hml : i + k < (mess l i y k).length := by rw [mess_len, HN.out]; omega
        have c1 := hO.cell (i + k) hml
        have c2 := hO.free (i + k)
        have hcb := (mess_ok HB.out i y k).at (i + k)
        have HZ := (show Hid _ from xor_is _ hcb y k)
        have HM : Hid (mess l i y (k + 1) = (mess l i y k).set (i + k) ((((mess l i y k).getD (i + k) 0).toNat ^^^ (y / 2 ^ (8 * k) % 256) : Nat) : Int)) := rfl
        obtain ⟨c, hcc⟩ : ∃ c, (mess l i y k).getD (i + k) 0 = c := ⟨_, rfl⟩
        rw [hcc] at c1 HZ HM
        obtain ⟨z, hze⟩ : ∃ z, bits .xor .u8 c ((y : Int) / 2 ^ (8 * k) % 256) = z := ⟨_, rfl⟩
        have HZ2 : Hid (mess l i y (k + 1) = (mess l i y k).set (i + k) z) := by rw [HM.out, ← hze, HZ.out]; exact rfl
        clear hml hO hcc hcb HZ HM
        have j1 : (0 : Int) ≤ (i : Int) + (k : Int) := by omega
        have j2 : (i : Int) + (k : Int) < (n : Int) := by omega
        have hw1 : IntKind.i64.wrap ((i : Int) + (k : Int)) = (i : Int) + (k : Int) := by rw [IntKind.wrap_i64]; omega
        have hw2 : IntKind.i64.wrap (8 * (k : Int)) = 8 * (k : Int) := by rw [IntKind.wrap_i64]; omega
        have hw3 : (8 * (k : Int)).toNat = 8 * k := by omega
        have hw4 : IntKind.u8.wrap ((y : Int) / 2 ^ (8 * k)) = (y : Int) / 2 ^ (8 * k) % 256 := by rw [IntKind.wrap_u8]
        have c1' : wr.drew.cell? ⟨g, i + k, none⟩ = some (.int .u8 c) := c1
        have c2' : wr.drew.frozen? ⟨g, i + k, none⟩ = false := c2
        go_wp2_with fail
        refine wp_region_any (by kernel_rfl) ?_
        change wpAny _ _ _ _ _ _ _ (World.drew _)
        refine take_to (i := 0) (d := some 37) (v := .slice (some ⟨g, 0, none⟩) n cp) rfl rfl (by kernel_rfl) (by kernel_rfl) (by kernel_rfl) (fun _ _ _ h => h) (Or.inl ⟨by rfl, fun w => by go_simp⟩) ?_
        simp only [Act.put, List.setIfInBounds_toArray, List.set_cons_zero, List.set_cons_succ]
        refine take_to (i := 1) (d := some 38) (v := .int .i64 (i : Int)) rfl rfl (by kernel_rfl) (by kernel_rfl) (by kernel_rfl) (fun _ _ _ h => h) (Or.inl ⟨by rfl, fun w => by go_simp⟩) ?_
        simp only [Act.put, List.setIfInBounds_toArray, List.set_cons_zero, List.set_cons_succ]
        refine take_to (i := 2) (d := some 39) (v := .int .i64 (k : Int)) rfl rfl (by kernel_rfl) (by kernel_rfl) (by kernel_rfl) (fun _ _ _ h => h) (Or.inl ⟨by rfl, fun w => by go_simp⟩) ?_
        simp only [Act.put, List.setIfInBounds_toArray, List.set_cons_zero, List.set_cons_succ]
        refine take_to (i := 3) (d := some 40) (v := .int .i64 ((i : Int) + (k : Int))) rfl rfl (by kernel_rfl) (by kernel_rfl) (by kernel_rfl) (fun _ _ _ h => h) (Or.inl ⟨by rfl, fun w => by go_simp⟩) ?_
        simp only [Act.put, List.setIfInBounds_toArray, List.set_cons_zero, List.set_cons_succ]
        refine take_to (i := 4) (d := some 41) (v := .pointer (some ⟨g, i + k, none⟩)) rfl rfl (by kernel_rfl) (by kernel_rfl) (by kernel_rfl) (fun _ _ _ h => h) (Or.inl ⟨by rfl, fun w => by go_simp⟩) ?_
        simp only [Act.put, List.setIfInBounds_toArray, List.set_cons_zero, List.set_cons_succ]
        refine take_to (i := 6) (d := some 43) (v := .int .u32 (y : Int)) rfl rfl (by kernel_rfl) (by kernel_rfl) (by kernel_rfl) (fun _ _ _ h => h) (Or.inl ⟨by rfl, fun w => by go_simp⟩) ?_
        simp only [Act.put, List.setIfInBounds_toArray, List.set_cons_zero, List.set_cons_succ]
        refine take_to (i := 7) (d := some 44) (v := .int .i64 (k : Int)) rfl rfl (by kernel_rfl) (by kernel_rfl) (by kernel_rfl) (fun _ _ _ h => h) (Or.inl ⟨by rfl, fun w => by go_simp⟩) ?_
        simp only [Act.put, List.setIfInBounds_toArray, List.set_cons_zero, List.set_cons_succ]
        refine take_to (i := 8) (d := some 45) (v := .int .i64 (8 * (k : Int))) rfl rfl (by kernel_rfl) (by kernel_rfl) (by kernel_rfl) (fun _ _ _ h => h) (Or.inl ⟨by rfl, fun w => by go_simp⟩) ?_
        simp only [Act.put, List.setIfInBounds_toArray, List.set_cons_zero, List.set_cons_succ]
        refine take_to (i := 9) (d := some 46) (v := .int .u32 ((y : Int) / 2 ^ (8 * k))) rfl rfl (by kernel_rfl) (by kernel_rfl) (by kernel_rfl) (fun _ _ _ h => h) (Or.inl ⟨by rfl, fun w => by go_simp⟩) ?_
        simp only [Act.put, List.setIfInBounds_toArray, List.set_cons_zero, List.set_cons_succ]
        refine take_to (i := 10) (d := some 47) (v := .int .u8 ((y : Int) / 2 ^ (8 * k) % 256)) rfl rfl (by kernel_rfl) (by kernel_rfl) (by kernel_rfl) (fun _ _ _ h => h) (Or.inl ⟨by rfl, fun w => by go_simp⟩) ?_
        simp only [Act.put, List.setIfInBounds_toArray, List.set_cons_zero, List.set_cons_succ]
        refine wpAny_ready (rs := [5]) (by kernel_rfl) (by simp) ?_
        refine AllReady.cons rfl (fun K hK => ?_) AllReady.nil
        go_simp
        refine hK _ _ ?_; clear hK K
        refine take_to (i := 11) (d := some 48) (v := .int .u8 z) rfl rfl (by kernel_rfl) (by kernel_rfl) (by kernel_rfl) (fun _ _ _ h => h) (Or.inl ⟨by rfl, fun w => by go_simp⟩) ?_
        simp only [Act.put, List.setIfInBounds_toArray, List.set_cons_zero, List.set_cons_succ]
        refine take_to (i := 12) (d := some 49) (v := .pointer (some ⟨g, i + k, none⟩)) rfl rfl (by kernel_rfl) (by kernel_rfl) (by kernel_rfl) (fun _ _ _ h => h) (Or.inl ⟨by rfl, fun w => by go_simp⟩) ?_
        simp only [Act.put, List.setIfInBounds_toArray, List.set_cons_zero, List.set_cons_succ]
        refine wpAny_ready (rs := [13]) (by kernel_rfl) (by simp) ?_
        refine AllReady.cons rfl (fun K hK => ?_) AllReady.nil
        go_simp
        refine hK _ _ ?_; clear hK K
        refine wpAny_done (by kernel_rfl) ?_ _
        go_wp2_with fail
        go_roundw
        case rel => exact ⟨k + 1, by omega, by go_num, by rw [HZ2.out]; exact HO.out.store (i + k) z, hbl.drew.setCell g0 _⟩
        case measure => simp [intOf]; omega
      · obtain rfl : k = 4 := by omega
        have HS : Hid (sum (mess l i y 4) ≠ sum l) := mess_sum HB.out (by rw [HN.out]; omega) (by omega) h0
        have BM : Hid (Bytes (mess l i y 4)) := mess_ok HB.out i y 4
        have n1 := beq_no HS.out
        have n2 := beq_no (sum_more HB.out BM.out HS.out)
        have RM : Hid (Rd wr (.slice (some ⟨g, 0, none⟩) n cp) (mess l i y 4)) := hO.rd
        have RL : Hid (Rd wr (.slice ao n cap) l) := H.out.below hbl
        have l1 := sum_lt BM.out
        have l2 := sum_lt HB.out
        obtain ⟨t1, ht1⟩ : ∃ t, sum (mess l i y 4) = t := ⟨_, rfl⟩
        obtain ⟨t2, ht2⟩ : ∃ t, sum l = t := ⟨_, rfl⟩
        rw [ht1, ht2] at n1 n2
        rw [ht1] at l1
        rw [ht2] at l2
        have HT1 := (show Hid _ from ht1)
        have HT2 := (show Hid _ from ht2)
        obtain ⟨m1, hm1⟩ : ∃ t, more t1 [1, 2, 3] = t := ⟨_, rfl⟩
        obtain ⟨m2, hm2⟩ : ∃ t, more t2 [1, 2, 3] = t := ⟨_, rfl⟩
        rw [hm1, hm2] at n2
        have HM1 := (show Hid _ from hm1)
        have HM2 := (show Hid _ from hm2)
        have B3 : Hid (Bytes [1, 2, 3]) := by
          have : Bytes [1, 2, 3] := by intro b hb; simp only [List.mem_cons, List.not_mem_nil, or_false] at hb; omega
          exact this
        have N3 : ∀ W : World, Rd (W.alloc (.cells #[.int .u8 1, .int .u8 2, .int .u8 3] 5)) (.slice (some ⟨W.heap.size, 0, none⟩) 3 3) [1, 2, 3] := fun W => (Own.new W W.heap.size (Nat.le_refl _) [1, 2, 3] 3 rfl (by omega)).rd
        have HN3 := (show Hid _ from N3)
        have n1' : ¬ ((t1 : Int) = (t2 : Int)) := by intro e; rw [e] at n1; simp at n1
        have n2' : ¬ ((m1 : Int) = (m2 : Int)) := by intro e; rw [e] at n2; simp at n2
        clear hO HO ht1 ht2 hm1 hm2 HS N3
        go_wp2_with fail
        refine (alive_any _).mono ?_; rintro e w2 ⟨rfl, b2⟩
        have D2 := bup hbl (Nat.le_refl _) b2
        have RM2 : Hid (Rd w2 _ (mess l i y 4)) := RM.out.below b2
        have RL2 : Hid (Rd w2 _ l) := RL.out.below b2
        clear b2
        go_wp2_with fail
        refine (sum_any _ _ _ BM.out RM2.out).mono ?_; rw [HT1.out]; rintro e w3 ⟨rfl, b3⟩
        have D3 := bup D2 (Nat.le_refl _) b3
        have RM3 : Hid (Rd w3 _ (mess l i y 4)) := RM2.out.below b3
        have RL3 : Hid (Rd w3 _ l) := RL2.out.below b3
        clear b3
        go_wp2_with fail
        refine (sum_any _ _ _ HB.out RL3.out).mono ?_; rw [HT2.out]; rintro e w4 ⟨rfl, b4⟩
        have D4 := bup D3 (Nat.le_refl _) b4
        have RM4 : Hid (Rd w4 _ (mess l i y 4)) := RM3.out.below b4
        have RL4 : Hid (Rd w4 _ l) := RL3.out.below b4
        clear b4
        go_wp2_with fail
        refine (sum_any _ _ _ BM.out RM4.out).mono ?_; rw [HT1.out]; rintro e w5 ⟨rfl, b5⟩
        have D5 := bup D4 (Nat.le_refl _) b5
        have RL5 : Hid (Rd w5 _ l) := RL4.out.below b5
        clear b5
        go_wp2_with fail
        refine (more_any _ t1 l1 _ _ B3.out (by exact HN3.out w5)).mono ?_; rw [HM1.out]; rintro e w6 ⟨rfl, b6⟩
        have D6 := bup (D5.alloc D5.size (.cells #[.int .u8 1, .int .u8 2, .int .u8 3] 5)) (Nat.le_refl _) b6
        have RL6 : Hid (Rd w6 _ l) := (RL5.out.below ((Below.refl _ w5).alloc (Nat.le_refl _) (.cells #[.int .u8 1, .int .u8 2, .int .u8 3] 5))).below b6
        clear b6
        go_wp2_with fail
        refine (sum_any _ _ _ HB.out RL6.out).mono ?_; rw [HT2.out]; rintro e w7 ⟨rfl, b7⟩
        have D7 := bup D6 (Nat.le_refl _) b7
        clear b7
        go_wp2_with fail
        refine (more_any _ t2 l2 _ _ B3.out (by exact HN3.out w7)).mono ?_; rw [HM2.out]; rintro e w8 ⟨rfl, b8⟩
        have D8 := bup (D7.alloc D7.size (.cells #[.int .u8 1, .int .u8 2, .int .u8 3] 5)) (Nat.le_refl _) b8
        clear b8
        go_wp2_with fail
        go_ret
        exact ⟨ret_bool (by unfold bne; rw [n1, n2]; rfl), D8⟩

set_option maxRecDepth 100000 in
theorem lifted (os : Os) (started : os.Started) (H : Type) (enc : TypeId × Value → H) :
    ReturnsInHanded {} Try.checked os 7 .any (Rows.crcUnlikeSpec.pre6 enc Try.prog Try.f7 Rows.crcUnlikeRow.domain false) (Rows.crcUnlikeSpec.post enc Try.prog Try.f7 false true false false) := by
  refine returnsInHanded_of_change (C := Try.checked) own started (by kernel_rfl) Try.func7
    (ChangeSpec.witness6 (enc := enc) (C := Try.checked) false ⟨#[], #[.slice none 0 0, .int .i64 0, .int .u32 0], []⟩ 8 (by kernel_rfl) (by kernel_rfl) (by kernel_rfl) (by kernel_rfl)) ?_
  intro W base args ds gs before hval0 hW hcnd _
  have hval : ∀ (j : Nat) t v, Try.f7.params[j]? = some t → args[j]? = some v → Value.okWide Try.prog W .any base t v := hval0
  have hW' := hW
  obtain ⟨p, q, hA0, hV, rfl, hfz, hnd⟩ := hW
  have hA : DataW.TrodAll enc Try.prog W 0 (fun _ => true) true Try.f7.params.toList args.toList ds p := hA0
  rw [Try.params7] at hA hval
  obtain ⟨v0, vs0, d0, ds0, p0, q0, hargs, rfl, rfl, h0, r0⟩ := trodAll_cons hA
  obtain ⟨v1, vs1, d1, ds1, p1, q1, rfl, rfl, rfl, h1, r1⟩ := trodAll_cons r0
  obtain ⟨v2, vs2, d2, ds2, p2, q2, rfl, rfl, rfl, h2, r2⟩ := trodAll_cons r1
  obtain ⟨rfl, rfl, rfl⟩ := trodAll_nil r2
  obtain rfl : args = #[v0, v1, v2] := by cases args; simp_all
  obtain ⟨rfl, rfl⟩ := trodVars_none hV
  have hlt := hW'.lt
  have k0 := h0
  obtain ⟨l0, b0, e0⟩ := open_u8s (hval 0 22 v0 rfl rfl) h0
  have k1 := h1
  obtain ⟨a1, rfl, rfl, rfl, w1⟩ := open_int Try.underlying3 (hval 1 3 v1 rfl rfl) h1
  have k2 := h2
  obtain ⟨a2, rfl, rfl, rfl, w2⟩ := open_int Try.underlying24 (hval 2 24 v2 rfl rfl) h2
  clear hA0 hval0
  refine (walk W v0 l0 b0 e0 a1 w1 a2 w2).mono fun e W' ⟨he, hg⟩ => ?_
  subst he
  exact ⟨_, rfl, post_of_below hW' (fun _ _ _ => (trodAll_cons_mk (shut_bool Try.underlying4 _) trodAll_mk0)) (trodAll_cons_mk (Below.trod laidOut (by kernel_rfl) (of_decide_eq_true (by kernel_rfl)) k0 hg (fun x hx => by first | exact absurd hx (by simp) | exact hlt x (by simp [hx]))) (trodAll_cons_mk (Below.trod laidOut (by kernel_rfl) (of_decide_eq_true (by kernel_rfl)) k1 hg (fun x hx => by first | exact absurd hx (by simp) | exact hlt x (by simp [hx]))) (trodAll_cons_mk (Below.trod laidOut (by kernel_rfl) (of_decide_eq_true (by kernel_rfl)) k2 hg (fun x hx => by first | exact absurd hx (by simp) | exact hlt x (by simp [hx]))) trodAll_mk0))) rfl hg⟩

theorem over : Rows.crcUnlikeRow.holds Try.pinned (OpenSpec.ofChange Rows.crcUnlikeSpec) :=
  OpenClaim.holds_of_wide 7 Try.f7 rfl rfl rfl rfl rfl rfl rfl ⟨rfl, rfl, rfl, rfl, rfl⟩ rfl rfl rfl rfl rfl (by kernel_rfl) Try.func7 (by kernel_rfl)
    (of_decide_eq_true (by kernel_rfl)) (by unfold Func.isWrapper; first | (rw [if_pos (by decide +kernel)]; kernel_rfl) | (rw [if_neg (by decide +kernel)]; exact ⟨rfl, rfl⟩))
    (fun os started H enc _ => lifted os started H enc)
end CrcUnlikeL

theorem crcUnlike_proved : Rows.CrcUnlikeSaid := CrcUnlikeL.over
#print axioms crcUnlike_proved
end Go.Proofs.Ythofloblheodbaa
