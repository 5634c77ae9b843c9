/-
  Proved: how many bytes were taken and how many are left are always all; a call takes ten bytes at most, three numbers thirty (the law ReaderCounts answers true at every input).
  Conditions: none.
-/
import Derived.Test.YtnoogdegpkgpdaaRows
import Derived.Test.YtnoogdegpkgpdaaFr7
import Derived.Test.YtnoogdegpkgpdaaRdr6
namespace Go.Proofs.Ytnoogdegpkgpdaa
open Go.ChangeShapes Go.WideShapes Go.ChangeAt Go.RowKit
set_option linter.unusedVariables false

namespace ReaderCountsL
theorem own : ownKnob Try.prog.godebug = none := by kernel_rfl

theorem uint_le {m : Int} (h : 0 ≤ m) (s : St) : uintA m s ≤ m := by
  unfold uintA
  split
  · split
    · rename_i h2
      unfold uintE at h2
      split at h2
      · omega
      · split at h2
        · split at h2
          · omega
          · omega
        · contradiction
    · exact h
  · exact h
/-- A step: all that was taken and left are as many; so many are taken, at most. -/
def Step (c : Int) (s t : St) : Prop := t.n + t.l.length = s.n + s.l.length ∧ s.n ≤ t.n ∧ t.n ≤ s.n + c
theorem Step.same (s : St) {c : Int} (h : 0 ≤ c) : Step c s s := ⟨rfl, by omega, by omega⟩
theorem Step.then {a b : Int} {s t u : St} (h : Step a s t) (k : Step b t u) : Step (a + b) s u := by
  obtain ⟨h1, h2, h3⟩ := h; obtain ⟨k1, k2, k3⟩ := k
  exact ⟨by omega, by omega, by omega⟩
theorem byte_step (s : St) : Step 1 s (byteS s) := by
  unfold byteS
  split
  · split
    · exact ⟨rfl, by simp, by simp only; omega⟩
    · rename_i h
      have := List.length_pos_iff.2 h
      exact ⟨by simp only [List.length_drop]; omega, by simp only; omega, by simp only; omega⟩
  · exact Step.same s (by omega)
theorem uint_step (m : Int) (s : St) (hb : Bytes s.l) : Step 10 s (uintS m s) := by
  unfold uintS
  split
  · split
    · rename_i h2
      have h3 : (got s.l).2.2 = 0 := by
        unfold uintE at h2
        split at h2
        · omega
        · split at h2
          · assumption
          · omega
      obtain ⟨g1, g2, g3⟩ := got_len hb h3
      exact ⟨by simp only [List.length_drop]; omega, by simp only; omega, by simp only; omega⟩
    · exact ⟨rfl, by simp, by simp only; omega⟩
  · exact Step.same s (by omega)
theorem bytes_uint {m : Int} {s : St} (h : Bytes s.l) : Bytes (uintS m s).l := by
  unfold uintS; split
  · split
    · exact h.drop _
    · exact h
  · exact h
theorem vec_step (s : St) (hb : Bytes s.l) : Step 30 s (vecS s) :=
  ((uint_step top64 s hb).then (uint_step top64 _ (bytes_uint hb))).then (uint_step top64 _ (bytes_uint (bytes_uint hb)))
theorem done_is (s : St) : ((doneA s == 0) = true) ↔ (s.e = 0 ∧ s.l = []) := by
  unfold doneA
  by_cases he : s.e = 0
  · by_cases hl : s.l = [] <;> simp [he, hl]
  · simp [he]
set_option maxRecDepth 4000 in
set_option maxHeartbeats 2000000 in
theorem walk (w : World) (v : Value) (l : List Int) (hb : Bytes l) (h : Rd w v l) (va : Value) (n : Nat) (A : Nat → Int × Int × Int) (hA : ∀ i, i < n → (0 ≤ (A i).2.1 ∧ (A i).2.1 ≤ 18446744073709551615) ∧ (0 ≤ (A i).2.2 ∧ (A i).2.2 ≤ 255)) (ha : RdA w va n A) :
    Calls Try.prog 7 #[v, va] w fun e w' => e = .returned (.bool true) ∧ Below w.heap.size w w' := by
  have HR : Hid (Rd w v l) := h
  have HB : Hid (Bytes l) := hb
  have HA : Hid (∀ i, i < n → (0 ≤ (A i).2.1 ∧ (A i).2.1 ≤ 18446744073709551615) ∧ (0 ≤ (A i).2.2 ∧ (A i).2.2 ≤ 255)) := hA
  clear hb hA
  obtain ⟨ao, cap, rfl, q1, q2, q3, q4⟩ := h
  obtain ⟨ao2, cap2, rfl, p1, p2, p3⟩ := ha
  have P3 : Hid _ := p3
  obtain ⟨m, hm⟩ : ∃ m, l.length = m := ⟨_, rfl⟩
  rw [hm] at q1 HR ⊢
  have HM : Hid (l.length = m) := hm
  clear hm q3 q4 p3
  obtain ⟨K, hK⟩ : ∃ K, w.heap.size = K := ⟨_, rfl⟩
  by_cases hbig : 2000 < m ∨ 300 < n
  · go_enter Try.func7, Try.ntmps7
    go_wp2_with fail
    refine (new_any _ _ l HB.out HR.out).mono ?_; rw [hK]; rintro e w1 ⟨rfl, r1, b1, s1⟩
    go_wp2_with fail
    refine (ralive_any _).mono ?_; rintro e w2 ⟨rfl, b2⟩
    have b3 : Below K w w2 := b1.trans (b2.mono (by omega))
    clear b1 b2 r1
    by_cases hbig2 : 2000 < m
    · have d1 : decide ((2000 : Int) < (m : Int)) = true := by simp; omega
      go_wp2_with fail
      refine (ralive_any _).mono ?_; rintro e w3 ⟨rfl, b4⟩
      have b5 : Below K w w3 := b3.trans (b4.mono (by have := b3.size; omega))
      go_wp2_with fail
      go_ret
      exact ⟨rfl, by rw [hK]; exact b5⟩
    · have d1 : decide ((2000 : Int) < (m : Int)) = false := by simp; omega
      have d2 : decide ((300 : Int) < (n : Int)) = true := by simp; omega
      go_wp2_with fail
      refine (ralive_any _).mono ?_; rintro e w3 ⟨rfl, b4⟩
      have b5 : Below K w w3 := b3.trans (b4.mono (by have := b3.size; omega))
      go_wp2_with fail
      go_ret
      exact ⟨rfl, by rw [hK]; exact b5⟩
  · have d1 : decide ((2000 : Int) < (m : Int)) = false := by simp; omega
    have d2 : decide ((300 : Int) < (n : Int)) = false := by simp; omega
    go_enter Try.func7, Try.ntmps7
    go_wp2_with fail
    refine (new_any _ _ l HB.out HR.out).mono ?_; rw [hK]; rintro e w1 ⟨rfl, r1, b1, s1⟩
    go_wp2_with fail
    refine (ralive_any _).mono ?_; rintro e w2 ⟨rfl, b2⟩
    have b3 : Below K w w2 := b1.trans (b2.mono (by omega))
    have r2 := r1.below b2 (by omega)
    have s2 := b2.size
    clear b1 b2 r1
    have hm2 : m ≤ 2000 := by omega
    have R2 : Hid (Rdr w2 K K ⟨l, 0, 0⟩) := r2
    clear r2 hbig
    go_wp2_with fail
    clear d1 d2
    go_loopg [31] n (fun g i wr => ∃ (k : Nat) (s : St), k + g = n ∧ i = .int .i64 k ∧ Rdr wr K K s ∧ s.n + s.l.length = m ∧ Below K w wr)
    case atStart => exact ⟨0, _, by omega, rfl, R2.out, by simp only; rw [HM.out]; omega, b3⟩
    case round =>
      clear b3 R2
      obtain ⟨k, s, hk, rfl, hr, hsum, hbl⟩ := hrel
      have R0 : Hid (Rdr wr K K s) := hr
      have HS : Hid (s.n + s.l.length = m) := hsum
      clear hr hsum
      by_cases hlt : k < n
      · obtain ⟨b, o, rfl, hat⟩ := P3.out.resolve_left (by omega)
        obtain ⟨c0, c1, c2⟩ := hat k hlt
        obtain ⟨⟨y0, y1⟩, x0, x1⟩ := HA.out k hlt
        obtain ⟨⟨kd, mo, er⟩, hq⟩ : ∃ q, A k = q := ⟨_, rfl⟩
        rw [hq] at c0 c1 c2 y0 y1 x0 x1
        simp only at c0 c1 c2 y0 y1 x0 x1
        have hblt : b < K := by have := World.block_lt_of_cell? w _ c0; simp only at this; omega
        have e0 := (hbl.cell (p := ⟨b, o + k * 3, none⟩) hblt).trans c0
        have e1 := (hbl.cell (p := ⟨b, o + k * 3 + 1, none⟩) hblt).trans c1
        have e2 := (hbl.cell (p := ⟨b, o + k * 3 + 2, none⟩) hblt).trans c2
        clear c0 c1 c2 hat hq
        obtain ⟨H, hH⟩ : ∃ H, wr.heap.size = H := ⟨_, rfl⟩
        have hMH : K < H := by have := R0.out.lt; omega
        have X0 := Blk.new wr #[.int .i64 kd, .int .u64 mo, .int .u8 er] 32 hH.symm
        have bb : Below H wr (wr.alloc (.cells #[.int .i64 kd, .int .u64 mo, .int .u8 er] 32)) := (Below.refl _ _).alloc (by omega) _
        have hbl2 := hbl.trans (bb.mono (show K ≤ H by omega))
        have r1 := R0.out.below bb (by omega)
        obtain ⟨n0, hn0⟩ : ∃ n0, s.n = n0 := ⟨_, rfl⟩
        have HN0 : Hid (s.n = n0) := hn0
        have nn0 : 0 ≤ n0 := by have := r1.n0; omega
        have nn1 : n0 ≤ m := by have := HS.out; omega
        clear hn0
        clear bb R0
        go_upto_region 8 with fail
        refine (at_any _ _ _ _ r1).mono ?_; rw [HN0.out]; rintro e w4 ⟨rfl, hw4⟩
        rw [hw4]
        clear hw4
        go_upto_block 2 with fail
        obtain ⟨W, hW⟩ : ∃ W, (wr.alloc (.cells #[.int .i64 kd, .int .u64 mo, .int .u8 er] 32)) = W := ⟨_, rfl⟩
        rw [hW] at X0 hbl2 r1
        rw [hW]
        have R1 : Hid (Rdr W K K s) := r1
        have BY : Hid (Bytes s.l) := r1.bytes
        clear r1 hW e0 e1 e2 hbl
        have z0 := X0.cell 0 _ rfl
        have z1 := X0.cell 1 _ rfl
        have z2 := X0.cell 2 _ rfl
        have zl := X0.lt
        go_cut [9, 31] from 31 to 94 (fun j i wx => i = .int .i64 k ∧ ∃ (c : Int) (s' : St), j = .int .i64 c ∧ 0 ≤ c ∧ c ≤ 30 ∧ Step c s s' ∧ Rdr wx K K s' ∧ Below K w wx)
        case first =>
          by_cases k0 : kd = 0
          · subst k0
            go_wp2_with fail
            refine (byte_any _ _ _ _ R1.out).mono ?_; rintro e w4 ⟨rfl, r4, g4⟩
            go_wp2_with fail
            go_meet
            exact ⟨rfl, 1, _, rfl, by omega, by omega, byte_step s, r4, Ch.up hbl2 g4 (by omega)⟩
          by_cases k1 : kd = 1
          · subst k1
            have R2 : Hid (Rdr W.drew K K s) := R1.out.drew
            have hb2 := hbl2.drew
            have X2 := X0.drew
            have ul := uint_le y0 s
            have ul2 : decide (mo < uintA mo s) = false := by simpa using ul
            go_wp2_with fail
            go_region_held3 (fun w' => w'.cell? ⟨H, 1, none⟩ = some (.int .u64 mo)) (first | with_reducible exact z1 | with_reducible exact z4 | go_keep)
              (first | (go_at_call 12; (with_reducible refine (uint_any _ _ _ _ mo R2.out).mono ?_); rintro e w4 ⟨rfl, r4, g4⟩; have X4 := X2.ch g4 (by omega); have z4 := X4.cell 1 _ rfl))
            go_wp2_with fail
            go_meet
            exact ⟨rfl, 10, _, rfl, by omega, by omega, uint_step mo s BY.out, r4, Ch.up hb2 g4 (by omega)⟩
          by_cases k2 : kd = 2
          · subst k2
            go_wp2_with fail
            refine (int_any _ _ _ _ R1.out).mono ?_; rintro e w4 ⟨rfl, r4, g4⟩
            go_wp2_with fail
            go_meet
            exact ⟨rfl, 10, _, rfl, by omega, by omega, uint_step top64 s BY.out, r4, Ch.up hbl2 g4 (by omega)⟩
          have j0 : (kd == 0) = false := by simpa using k0
          have j1 : (kd == 1) = false := by simpa using k1
          have j2 : (kd == 2) = false := by simpa using k2
          go_wp2_with fail
          refine (vec_any _ _ _ _ R1.out).mono ?_; rintro e w4 ⟨rfl, r4, g4⟩
          go_wp2_with fail
          go_meet
          exact ⟨rfl, 30, _, rfl, by omega, by omega, vec_step s BY.out, r4, Ch.up hbl2 g4 (by omega)⟩
        case rest =>
          clear R1 z0 z1 z2 zl X0 hbl2 BY
          obtain ⟨rfl, c, s', rfl, q1', q2', st, r5, b5⟩ := hcut
          obtain ⟨l', n', e'⟩ := s'
          have R5 : Hid (Rdr wc K K ⟨l', n', e'⟩) := r5
          clear r5
          obtain ⟨st1, st2, st3⟩ := st
          simp only [HN0.out] at st1 st2 st3
          obtain ⟨q, hq⟩ : ∃ q, l'.length = q := ⟨_, rfl⟩
          have HQ : Hid (l'.length = q) := hq
          rw [hq] at st1
          have sum : n' + (q : Int) = m := by have := HS.out; rw [HN0.out] at this; omega
          have a1 : decide (n' < n0) = false := by simp; omega
          have a2 : decide (n0 + c < n') = false := by simp; omega
          clear hq st1
          obtain ⟨d, hd⟩ : ∃ d, doneA ⟨l', n', e'⟩ = d := ⟨_, rfl⟩
          have HD : Hid (doneA ⟨l', n', e'⟩ = d) := hd
          clear hd
          have fin : ∀ B C : Bool, True := fun _ _ => trivial
          clear fin
          by_cases he : e' = 0
          · subst he
            by_cases hl : l' = []
            · have q0 : q = 0 := by rw [← HQ.out, hl]; rfl
              have d0 : d = 0 := by rw [← HD.out, hl]; rfl
              subst q0 d0
              go_wp2_with fail
              refine (at_any _ _ _ _ R5.out).mono ?_; simp only; rintro e w5 ⟨rfl, rfl⟩
              go_wp2_with fail
              refine (left_any _ _ _ _ R5.out).mono ?_; simp only [HQ.out]; rintro e w5 ⟨rfl, rfl⟩
              go_wp2_with fail
              refine (at_any _ _ _ _ R5.out).mono ?_; simp only; rintro e w5 ⟨rfl, rfl⟩
              go_wp2_with fail
              refine (at_any _ _ _ _ R5.out).mono ?_; simp only; rintro e w5 ⟨rfl, rfl⟩
              go_wp2_with fail
              refine (done_any _ _ _ _ R5.out).mono ?_; rw [HD.out]; rintro e w5 ⟨rfl, rfl⟩
              go_wp2_with fail
              refine (err_any _ _ _ _ R5.out).mono ?_; simp only; rintro e w5 ⟨rfl, rfl⟩
              go_wp2_with fail
              refine (left_any _ _ _ _ R5.out).mono ?_; simp only [HQ.out]; rintro e w5 ⟨rfl, rfl⟩
              go_wp2_with fail
              go_roundg (gk - 1)
              case measure => omega
              case rel => exact ⟨k + 1, _, by omega, by go_num, R5.out, by simp only [HQ.out]; omega, b5⟩
            · have q0 : (q : Int) ≠ 0 := by have := List.length_pos_iff.2 hl; have := HQ.out; omega
              have q00 : ((q : Int) == 0) = false := by simpa using q0
              have d0 : d = 8 := by rw [← HD.out]; simp [doneA, hl]
              subst d0
              go_wp2_with fail
              refine (at_any _ _ _ _ R5.out).mono ?_; simp only; rintro e w5 ⟨rfl, rfl⟩
              go_wp2_with fail
              refine (left_any _ _ _ _ R5.out).mono ?_; simp only [HQ.out]; rintro e w5 ⟨rfl, rfl⟩
              go_wp2_with fail
              refine (at_any _ _ _ _ R5.out).mono ?_; simp only; rintro e w5 ⟨rfl, rfl⟩
              go_wp2_with fail
              refine (at_any _ _ _ _ R5.out).mono ?_; simp only; rintro e w5 ⟨rfl, rfl⟩
              go_wp2_with fail
              refine (done_any _ _ _ _ R5.out).mono ?_; rw [HD.out]; rintro e w5 ⟨rfl, rfl⟩
              go_wp2_with fail
              refine (err_any _ _ _ _ R5.out).mono ?_; simp only; rintro e w5 ⟨rfl, rfl⟩
              go_wp2_with fail
              refine (left_any _ _ _ _ R5.out).mono ?_; simp only [HQ.out]; rintro e w5 ⟨rfl, rfl⟩
              go_wp2_with fail
              go_roundg (gk - 1)
              case measure => omega
              case rel => exact ⟨k + 1, _, by omega, by go_num, R5.out, by simp only [HQ.out]; omega, b5⟩
          · have e00 : (e' == 0) = false := by simpa using he
            have d0 : d = e' := by rw [← HD.out]; simp [doneA, he]
            subst d0
            go_wp2_with fail
            refine (at_any _ _ _ _ R5.out).mono ?_; simp only; rintro e w5 ⟨rfl, rfl⟩
            go_wp2_with fail
            refine (left_any _ _ _ _ R5.out).mono ?_; simp only [HQ.out]; rintro e w5 ⟨rfl, rfl⟩
            go_wp2_with fail
            refine (at_any _ _ _ _ R5.out).mono ?_; simp only; rintro e w5 ⟨rfl, rfl⟩
            go_wp2_with fail
            refine (at_any _ _ _ _ R5.out).mono ?_; simp only; rintro e w5 ⟨rfl, rfl⟩
            go_wp2_with fail
            refine (done_any _ _ _ _ R5.out).mono ?_; rw [HD.out]; rintro e w5 ⟨rfl, rfl⟩
            go_wp2_with fail
            refine (err_any _ _ _ _ R5.out).mono ?_; simp only; rintro e w5 ⟨rfl, rfl⟩
            go_wp2_with fail
            go_roundg (gk - 1)
            case measure => omega
            case rel => exact ⟨k + 1, _, by omega, by go_num, R5.out, by simp only [HQ.out]; omega, b5⟩
      · obtain rfl : k = n := by omega
        go_wp2_with fail
        go_ret
        exact ⟨rfl, by rw [hK]; exact hbl⟩

set_option maxRecDepth 100000 in
theorem lifted (os : Os) (started : os.Started) (H : Type) (enc : TypeId × Value → H) :
    ReturnsInHanded {} Try.checked os 7 .any (Rows.readerCountsSpec.pre6 enc Try.prog Try.f7 Rows.readerCountsRow.domain false) (Rows.readerCountsSpec.post enc Try.prog Try.f7 false true false false) := by
  refine returnsInHanded_of_change (C := Try.checked) own started (by kernel_rfl) Try.func7
    (ChangeSpec.witness6 (enc := enc) (C := Try.checked) false ⟨#[], #[.slice none 0 0, .slice none 0 0], []⟩ 8 (by kernel_rfl) (by kernel_rfl) (by kernel_rfl) (by kernel_rfl)) ?_
  intro W base args ds gs before hval0 hW hcnd _
  have hval : ∀ (j : Nat) t v, Try.f7.params[j]? = some t → args[j]? = some v → Value.okWide Try.prog W .any base t v := hval0
  have hW' := hW
  obtain ⟨p, q, hA0, hV, rfl, hfz, hnd⟩ := hW
  have hA : DataW.TrodAll enc Try.prog W 0 (fun _ => true) true Try.f7.params.toList args.toList ds p := hA0
  rw [Try.params7] at hA hval
  obtain ⟨v0, vs0, d0, ds0, p0, q0, hargs, rfl, rfl, h0, r0⟩ := trodAll_cons hA
  obtain ⟨v1, vs1, d1, ds1, p1, q1, rfl, rfl, rfl, h1, r1⟩ := trodAll_cons r0
  obtain ⟨rfl, rfl, rfl⟩ := trodAll_nil r1
  obtain rfl : args = #[v0, v1] := by cases args; simp_all
  obtain ⟨rfl, rfl⟩ := trodVars_none hV
  have hlt := hW'.lt
  have k0 := h0
  obtain ⟨l0, b0, e0⟩ := open_u8s (hval 0 22 v0 rfl rfl) h0
  have k1 := h1
  obtain ⟨n1, A1, b1, e1⟩ := open_acts (hval 1 23 v1 rfl rfl) h1
  clear hA0 hval0
  refine (walk W v0 l0 b0 e0 v1 n1 A1 b1 e1).mono fun e W' ⟨he, hg⟩ => ?_
  subst he
  exact ⟨_, rfl, post_of_below hW' (fun _ _ _ => (trodAll_cons_mk (shut_bool Try.underlying4 _) trodAll_mk0)) (trodAll_cons_mk (Below.trod laidOut (by kernel_rfl) (of_decide_eq_true (by kernel_rfl)) k0 hg (fun x hx => by first | exact absurd hx (by simp) | exact hlt x (by simp [hx]))) (trodAll_cons_mk (Below.trod laidOut (by kernel_rfl) (of_decide_eq_true (by kernel_rfl)) k1 hg (fun x hx => by first | exact absurd hx (by simp) | exact hlt x (by simp [hx]))) trodAll_mk0)) rfl hg⟩

theorem over : Rows.readerCountsRow.holds Try.pinned (OpenSpec.ofChange Rows.readerCountsSpec) :=
  OpenClaim.holds_of_wide 7 Try.f7 rfl rfl rfl rfl rfl rfl rfl ⟨rfl, rfl, rfl, rfl, rfl⟩ rfl rfl rfl rfl rfl (by kernel_rfl) Try.func7 (by kernel_rfl)
    (of_decide_eq_true (by kernel_rfl)) (by unfold Func.isWrapper; first | (rw [if_pos (by decide +kernel)]; kernel_rfl) | (rw [if_neg (by decide +kernel)]; exact ⟨rfl, rfl⟩))
    (fun os started H enc _ => lifted os started H enc)
end ReaderCountsL

theorem readerCounts_proved : Rows.ReaderCountsSaid := ReaderCountsL.over
#print axioms readerCounts_proved
end Go.Proofs.Ytnoogdegpkgpdaa
