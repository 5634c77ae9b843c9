/-
  Proved: numbers that were put, one behind the other, are got, one behind the other, each by its size (the law VarintRows answers true at every input).
  Conditions: none.
-/
import Derived.Test.YtplfibgciaokoaaRows
import Derived.Test.YtplfibgciaokoaaFr
import Derived.Test.YtplfibgciaokoaaVint6
namespace Go.Proofs.Ytplfibgciaokoaa
open Go.ChangeShapes Go.WideShapes Go.ChangeAt Go.RowKit
set_option linter.unusedVariables false

namespace VarintRowsL
theorem own : ownKnob Try.prog.godebug = none := by kernel_rfl

/-- Numbers' bytes, one behind the other. -/
def encs (l : List Int) : List Int := l.flatMap put
theorem encs_snoc (l : List Int) (k : Nat) (h : k < l.length) : encs (l.take (k + 1)) = encs (l.take k) ++ put (l.getD k 0) := by
  unfold encs; rw [take_snoc' l k h, List.flatMap_append]; simp
theorem encs_drop (l : List Int) (k : Nat) (h : k < l.length) : encs (l.drop k) = put (l.getD k 0) ++ encs (l.drop (k + 1)) := by
  unfold encs; rw [List.drop_eq_getElem_cons h, List.flatMap_cons]; simp [List.getD, List.getElem?_eq_getElem h]
theorem encs_len : ∀ (l : List Int), (∀ n ∈ l, 0 ≤ n ∧ n ≤ 18446744073709551615) → (encs l).length ≤ 10 * l.length
  | [], _ => by simp [encs]
  | x :: r, h => by
    have h1 := encs_len r (fun n hn => h n (by simp [hn]))
    have h2 := h x (by simp)
    have h3 := put_ten h2.1 h2.2
    unfold encs at h1 ⊢
    rw [List.flatMap_cons, List.length_append, List.length_cons]; omega
theorem encs_ok (l : List Int) (h : ∀ n ∈ l, 0 ≤ n ∧ n ≤ 18446744073709551615) : Bytes (encs l) := by
  intro b hb
  simp only [encs, List.mem_flatMap] at hb
  obtain ⟨x, hx, hb⟩ := hb
  exact put_ok (h x hx).1 b hb
theorem getD_mem {l : List Int} {k : Nat} (h : k < l.length) : l.getD k 0 ∈ l := by
  have e : l.getD k 0 = l[k] := by simp [List.getD, h]
  rw [e]; exact List.getElem_mem h
set_option maxHeartbeats 1000000 in
theorem walk (w : World) (v : Value) (l : List Int) (hb : ∀ n ∈ l, 0 ≤ n ∧ n ≤ 18446744073709551615) (h : Rd64 w v l) :
    Calls Try.prog 8 #[v] w fun e w' => e = .returned (.bool true) ∧ Below w.heap.size w w' := by
  obtain ⟨ao, cap, rfl, hc, hm, h3⟩ := h
  have H3 := (show Hid _ from h3)
  have HB := (show Hid _ from hb)
  clear hb h3
  obtain ⟨n, hn⟩ : ∃ n, l.length = n := ⟨_, rfl⟩
  rw [hn] at hc ⊢
  have HN := (show Hid _ from hn)
  clear hn
  by_cases hbig : 200 < n
  · go_enter Try.func8, Try.ntmps8
    go_wp2_with fail
    refine (valive_any _).mono ?_; rintro e w1 ⟨rfl, b1⟩
    go_wp2_with fail
    go_ret
    exact ⟨rfl, b1⟩
  · go_enter Try.func8, Try.ntmps8
    go_wp2_with fail
    go_loopw [17, 3] (fun i u wr => ∃ k : Nat, k ≤ n ∧ i = .int .i64 k ∧ Own wr w.heap.size u (encs (l.take k)) ∧ Below w.heap.size w wr) (fun i _ _ => n - (intOf i).toNat)
    case atStart => exact ⟨0, Nat.zero_le _, rfl, Own.nil _ _, Below.refl _ _⟩
    case round =>
      obtain ⟨k, hk, rfl, hown, hbl⟩ := hrel
      have HO : Hid (Own wr w.heap.size u3 (encs (l.take k))) := hown
      clear hown
      by_cases hlt : k < n
      · have hl : l ≠ [] := by intro h; rw [h] at HN; have := HN.out; simp at this; omega
        obtain ⟨b, o, rfl, hat⟩ := H3.out.resolve_left hl
        have hcell := hat k (by rw [HN.out]; exact hlt)
        have hblt : b < w.heap.size := World.block_lt_of_cell? w _ hcell
        have hcell2 : wr.cell? ⟨b, o + k, none⟩ = some (.int .u64 (l.getD k 0)) := (hbl.cell (p := ⟨b, o + k, none⟩) hblt).trans hcell
        obtain ⟨x, hx⟩ : ∃ x, l.getD k 0 = x := ⟨_, rfl⟩
        have bx := HB.out (l.getD k 0) (getD_mem (by rw [HN.out]; exact hlt))
        rw [hx] at hcell2 bx
        obtain ⟨x0, x1⟩ := bx
        have HX := (show Hid _ from hx)
        have HE : Hid (encs (l.take (k + 1)) = encs (l.take k) ++ put x) := by rw [← hx]; exact encs_snoc l k (by rw [HN.out]; exact hlt)
        have HL : (encs (l.take k)).length ≤ 2000 := by
          have h1 := encs_len (l.take k) (fun n hn => HB.out n (List.mem_of_mem_take hn))
          have h2 : (l.take k).length ≤ k := List.length_take_le _ _
          omega
        clear hx hcell hat hl
        go_wp2_with fail
        refine (put_any x x0 x1 _).mono ?_; rintro e w1 ⟨u1, rfl, own1, b1⟩
        have O1 := Own.below HO.out b1
        have l1 := put_ten x0 x1
        have s1 := hbl.size
        have s2 := b1.size
        go_wp2_with (at_builtin; refine app_wp rfl _ _ rfl w.heap.size _ (encs (l.take k)) rfl (by exact O1) _ (put x) rfl (by exact own1.rd) (by omega) (by omega) ?_; intro u2 w2 own2 b2)
        go_roundw
        case rel => exact ⟨k + 1, by omega, by go_num, by rw [HE.out]; exact own2, (hbl.trans (b1.mono s1)).trans b2⟩
        case measure => simp [intOf]; omega
      · obtain rfl : k = n := by omega
        have hR : Rd wr u3 (encs l) := by
          have := Own.rd HO.out
          rwa [List.take_of_length_le (by rw [HN.out]; omega)] at this
        have HR : Hid (Rd wr u3 (encs l)) := hR
        clear hR HO
        go_wp2_with fail
        go_loop [28, 3] (fun i u => ∃ j : Nat, j ≤ k ∧ i = .int .i64 j ∧ Rd wr u (encs (l.drop j))) (fun i _ => k - (intOf i).toNat)
        case atStart => exact ⟨0, Nat.zero_le _, rfl, HR.out⟩
        case round =>
          obtain ⟨j, hj, rfl, hR⟩ := hrel
          by_cases hjk : j < k
          · have hl : l ≠ [] := by intro h; rw [h] at HN; have := HN.out; simp at this; omega
            obtain ⟨b, o, rfl, hat⟩ := H3.out.resolve_left hl
            have hcell := hat j (by rw [HN.out]; exact hjk)
            have hblt : b < w.heap.size := World.block_lt_of_cell? w _ hcell
            have hcell2 : wr.cell? ⟨b, o + j, none⟩ = some (.int .u64 (l.getD j 0)) := (hbl.cell (p := ⟨b, o + j, none⟩) hblt).trans hcell
            obtain ⟨x, hx⟩ : ∃ x, l.getD j 0 = x := ⟨_, rfl⟩
            have bx := HB.out (l.getD j 0) (getD_mem (by rw [HN.out]; exact hjk))
            rw [hx] at hcell2 bx
            obtain ⟨x0, x1⟩ := bx
            rw [encs_drop l j (by rw [HN.out]; exact hjk), hx] at hR
            have HG : Hid (got (put x ++ encs (l.drop (j + 1))) = (x, ((put x).length : Int), 0)) := got_put x0 x1 _
            have bE : Bytes (put x ++ encs (l.drop (j + 1))) := (put_ok x0).append (encs_ok _ (fun n hn => HB.out n (List.mem_of_mem_drop hn)))
            have BE : Hid (Bytes (put x ++ encs (l.drop (j + 1)))) := bE
            have HR2 : Hid (Rd wr _ (put x ++ encs (l.drop (j + 1)))) := hR
            obtain ⟨ao2, cap2, rfl, c1, c2, c3, c4⟩ := hR
            obtain ⟨b2, o2, rfl, at2⟩ := c4.resolve_left (by simp [put_ne])
            have AT2 : Hid (At wr b2 o2 (put x ++ encs (l.drop (j + 1)))) := at2
            have m1 := put_pos x
            have m2 := put_ten x0 x1
            obtain ⟨m, hmm⟩ : ∃ m, (put x).length = m := ⟨_, rfl⟩
            obtain ⟨q, hqq⟩ : ∃ q, (encs (l.drop (j + 1))).length = q := ⟨_, rfl⟩
            have hlen : (put x ++ encs (l.drop (j + 1))).length = m + q := by rw [List.length_append, hmm, hqq]
            rw [hlen] at c1 HR2 ⊢
            rw [hmm] at m1 m2 HG
            have HM := (show Hid _ from hmm)
            have HQ := (show Hid _ from hqq)
            clear hx hcell hat hl hmm hqq hlen bE at2 c3 c4
            go_wp2_with fail
            refine (get_any _ _ BE.out _ HR2.out).mono ?_; rw [HG.out]; rintro e w1 ⟨rfl, rfl⟩
            go_wp2_with fail
            refine (size_any x x0 x1 _).mono ?_; rw [HM.out]; rintro e w2 ⟨rfl, rfl⟩
            have q1 : decide ((m : Int) < 1) = false := by simp; omega
            go_wp2_with fail
            go_round
            case rel =>
              refine ⟨j + 1, by omega, by go_num, ?_⟩
              have hq := HQ.out
              by_cases hz : cap2 = m
              · rw [if_pos hz]
                have q0 : q = 0 := by omega
                have e0 : encs (l.drop (j + 1)) = [] := List.eq_nil_of_length_eq_zero (by omega)
                rw [e0]
                exact ⟨_, _, by rw [q0]; rfl, by simp, by omega, fun h => by simp at h, Or.inl rfl⟩
              · rw [if_neg hz]
                have hat := At.drop AT2.out m
                have e1 : (put x ++ encs (l.drop (j + 1))).drop m = encs (l.drop (j + 1)) := by rw [← HM.out, List.drop_left]
                rw [e1] at hat
                have := Rd.at (cap := cap2 - m) hat (by omega) (by omega)
                rw [hq] at this; exact this
            case measure => simp [intOf]; omega
          · obtain rfl : j = k := by omega
            rw [List.drop_of_length_le (by rw [HN.out]; omega)] at hR
            obtain ⟨ao2, cap2, rfl, _⟩ := hR
            go_wp2_with fail
            refine (valive_any _).mono ?_; rintro e w1 ⟨rfl, b1⟩
            go_wp2_with fail
            go_ret
            exact ⟨rfl, bup hbl (Nat.le_refl _) b1⟩

set_option maxRecDepth 100000 in
theorem lifted (os : Os) (started : os.Started) (H : Type) (enc : TypeId × Value → H) :
    ReturnsInHanded {} Try.checked os 8 .any (Rows.varintRowsSpec.pre6 enc Try.prog Try.f8 Rows.varintRowsRow.domain false) (Rows.varintRowsSpec.post enc Try.prog Try.f8 false true false false) := by
  refine returnsInHanded_of_change (C := Try.checked) own started (by kernel_rfl) Try.func8
    (ChangeSpec.witness6 (enc := enc) (C := Try.checked) false ⟨#[], #[.slice none 0 0], []⟩ 8 (by kernel_rfl) (by kernel_rfl) (by kernel_rfl) (by kernel_rfl)) ?_
  intro W base args ds gs before hval0 hW hcnd _
  have hval : ∀ (j : Nat) t v, Try.f8.params[j]? = some t → args[j]? = some v → Value.okWide Try.prog W .any base t v := hval0
  have hW' := hW
  obtain ⟨p, q, hA0, hV, rfl, hfz, hnd⟩ := hW
  have hA : DataW.TrodAll enc Try.prog W 0 (fun _ => true) true Try.f8.params.toList args.toList ds p := hA0
  rw [Try.params8] at hA hval
  obtain ⟨v0, vs0, d0, ds0, p0, q0, hargs, rfl, rfl, h0, r0⟩ := trodAll_cons hA
  obtain ⟨rfl, rfl, rfl⟩ := trodAll_nil r0
  obtain rfl : args = #[v0] := by cases args; simp_all
  obtain ⟨rfl, rfl⟩ := trodVars_none hV
  have hlt := hW'.lt
  have k0 := h0
  obtain ⟨l0, b0, e0⟩ := open_u64s (hval 0 39 v0 rfl rfl) h0
  clear hA0 hval0
  refine (walk W v0 l0 b0 e0).mono fun e W' ⟨he, hg⟩ => ?_
  subst he
  exact ⟨_, rfl, post_of_below hW' (fun _ _ _ => (trodAll_cons_mk (shut_bool Try.underlying4 _) trodAll_mk0)) (trodAll_cons_mk (Below.trod laidOut (by kernel_rfl) (of_decide_eq_true (by kernel_rfl)) k0 hg (fun x hx => by first | exact absurd hx (by simp) | exact hlt x (by simp [hx]))) trodAll_mk0) rfl hg⟩

theorem over : Rows.varintRowsRow.holds Try.pinned (OpenSpec.ofChange Rows.varintRowsSpec) :=
  OpenClaim.holds_of_wide 8 Try.f8 rfl rfl rfl rfl rfl rfl rfl ⟨rfl, rfl, rfl, rfl, rfl⟩ rfl rfl rfl rfl rfl (by kernel_rfl) Try.func8 (by kernel_rfl)
    (of_decide_eq_true (by kernel_rfl)) (by unfold Func.isWrapper; first | (rw [if_pos (by decide +kernel)]; kernel_rfl) | (rw [if_neg (by decide +kernel)]; exact ⟨rfl, rfl⟩))
    (fun os started H enc _ => lifted os started H enc)
end VarintRowsL

theorem varintRows_proved : Rows.VarintRowsSaid := VarintRowsL.over
#print axioms varintRows_proved
end Go.Proofs.Ytplfibgciaokoaa
