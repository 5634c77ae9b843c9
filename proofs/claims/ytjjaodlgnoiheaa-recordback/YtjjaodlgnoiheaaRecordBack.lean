/-
  Proved: a record that is written is read, whatever stands behind; fewer of its bytes are too short (the law RecordBack answers true at every input).
  Conditions: none.
-/
import Derived.Test.YtjjaodlgnoiheaaRows
import Derived.Test.YtjjaodlgnoiheaaFr8
import Derived.Test.YtjjaodlgnoiheaaRec16
import Derived.Test.YtjjaodlgnoiheaaRec21
import Derived.Test.YtjjaodlgnoiheaaRec8
namespace Go.Proofs.Ytjjaodlgnoiheaa
open Go.ChangeShapes Go.WideShapes Go.ChangeAt Go.RowKit
set_option linter.unusedVariables false

namespace RecordBackL
theorem own : ownKnob Try.prog.godebug = none := by kernel_rfl

attribute [local go_sem ↓] eqR_run eqE_run eq6_run
set_option maxRecDepth 8000 in
set_option maxHeartbeats 20000000 in
theorem walk (w : World) (r : Rc) (ok : r.ok) (last : Int) (hl : (Lit.int .i64 last).wf = true) (vb : Value) (bh : List Int) (hbb : Bytes bh) (hbr : Rd w vb bh) :
    Calls Try.prog 6 #[recV r, .int .i64 last, vb] w fun e w' => e = .returned (.bool true) ∧ Below w.heap.size w w' := by
  have bl := wf_i64 hl
  clear hl
  obtain ⟨l, hll⟩ : ∃ l, wrB r last = l := ⟨_, rfl⟩
  obtain ⟨er, her⟩ : ∃ e, wrE r last = e := ⟨_, rfl⟩
  have HL : Hid (wrB r last = l) := hll
  have HE : Hid (wrE r last = er) := her
  have LN : l.length ≤ 68 := by rw [← hll]; exact wr_len ok
  have LB : Hid (Bytes l) := by rw [← hll]; exact wr_ok ok
  have OK : Hid r.ok := ok
  have BL : Hid (S64 last) := bl
  have NIL : Hid (er ≠ 0 → l = []) := fun h => by rw [← hll]; unfold wrB; rw [if_neg (by rw [her]; exact h)]
  have RDW : Hid (er = 0 → ∀ n, redT ⟨l ++ bh, n, 0⟩ last = r ∧ redS ⟨l ++ bh, n, 0⟩ last = ⟨bh, n + l.length, 0⟩ ∧ redE ⟨l ++ bh, n, 0⟩ last = 0) := fun h n => by rw [← hll]; exact wr_read ok (by rw [her]; exact h) bh n
  have CUTW : Hid (er = 0 → ∀ i, i < l.length → redE ⟨l.take i, 0, 0⟩ last = 6 ∧ redT ⟨l.take i, 0, 0⟩ last = noRec) := fun h i hi => by rw [← hll]; exact wr_short ok (by rw [her]; exact h) i (by rw [hll]; exact hi) 0
  have HBB : Hid (Bytes bh) := hbb
  have HBR : Hid (Rd w vb bh) := hbr
  obtain ⟨aob, capb, rfl, _, _, _, _⟩ := hbr
  obtain ⟨nb, hnb⟩ : ∃ nb, bh.length = nb := ⟨_, rfl⟩
  have HNB : Hid (bh.length = nb) := hnb
  rw [hnb] at HBR ⊢
  clear hll her ok bl hbb hnb
  go_enter Try.func6, Try.ntmps6
  go_wp2_with fail
  generalize hW : w.alloc (.cells (recA r) 25) = W0
  obtain ⟨A0, B0, Z0⟩ := boxed hW
  have BR0 : Hid (Rd W0 (.slice aob nb capb) bh) := HBR.out.below B0
  clear hW Z0 HBR
  obtain ⟨H, hH⟩ : ∃ H, w.heap.size = H := ⟨_, rfl⟩
  have HH : Hid (w.heap.size = H) := hH
  have hle : H ≤ w.heap.size := by omega
  rw [hH] at A0 B0
  rw [hH]
  clear hH
  refine (rec_write _ r last OK.out BL.out).mono ?_; rw [HL.out, HE.out]; rintro e' W1 ⟨u1, rfl, own1, bb⟩
  have A1 := A0.below bb A0.lt
  have B1 := bup B0 hle bb
  have BR1 : Hid (Rd W1 (.slice aob nb capb) bh) := BR0.out.below bb
  have RL : Hid (Rd W1 u1 l) := own1.rd
  obtain ⟨ao, cap, hu, hc1, hc2, _, _⟩ := own1.rd
  subst hu
  clear own1 A0 B0 bb BR0
  obtain ⟨n0, hn0⟩ : ∃ n0, l.length = n0 := ⟨_, rfl⟩
  rw [hn0] at LN RL hc1 CUTW RDW
  rw [hn0]
  have HN0 : Hid (l.length = n0) := hn0
  clear hn0
  by_cases he : er = 0
  · by_cases hbig : 500 < nb
    · subst he
      go_wp2_with fail
      refine (rec_alive _).mono ?_; rintro e' W2 ⟨rfl, bb⟩
      have B2 := bup B1 hle bb
      go_wp2_with fail
      go_ret
      exact ⟨rfl, HH.out ▸ B2⟩
    · have RW := RDW.out he
      have CW : Hid (∀ i, i < n0 → redE ⟨l.take i, 0, 0⟩ last = 6 ∧ redT ⟨l.take i, 0, 0⟩ last = noRec) := CUTW.out he
      have RW0 : Hid (redT ⟨l ++ bh, 0, 0⟩ last = r ∧ redS ⟨l ++ bh, 0, 0⟩ last = ⟨bh, 0 + (n0 : Int), 0⟩ ∧ redE ⟨l ++ bh, 0, 0⟩ last = 0) := RW 0
      subst he
      clear RW RDW CUTW NIL HL HE
      have OE : Own (W1.alloc (.cells #[] 5)) W1.heap.size (.slice (some ⟨W1.heap.size, 0, none⟩) 0 0) [] := Own.built W1 _ (Nat.le_refl _) [] 0 rfl (by omega)
      have bE : Below W1.heap.size W1 (W1.alloc (.cells #[] 5)) := (Below.refl _ _).alloc (Nat.le_refl _) _
      have RLE : Rd (W1.alloc (.cells #[] 5)) (.slice ao n0 cap) l := RL.out.below bE
      have BRE : Rd (W1.alloc (.cells #[] 5)) (.slice aob nb capb) bh := BR1.out.below bE
      have h11 := HN0.out
      have h12 := HNB.out
      go_wp2_with (at_builtin; first | (refine app_wp rfl _ _ rfl W1.heap.size _ [] rfl (by exact OE) _ l rfl (by exact RLE) (by simp; omega) (by simp) ?_; intro u2 w2 own2 b2; have b2' := bE.trans b2; have O2 : Hid (Own w2 W1.heap.size u2 ([] ++ l)) := own2; have BR2 : Hid (Rd w2 (.slice aob nb capb) bh) := BR1.out.below b2'; have s2 := b2'.size; clear own2 OE b2) | (refine app_wp rfl _ _ rfl W1.heap.size _ ([] ++ l) rfl (by exact O2.out) _ bh rfl (by exact BR2.out) (by rw [List.nil_append]; omega) (by omega) ?_; intro u3 w3 own3 b3))
      rw [List.nil_append] at own3
      have R3 : Hid (Rd w3 u3 (l ++ bh)) := own3.rd
      have b13 := b2'.trans b3
      have A3 := A1.below b13 A1.lt
      have B3 := bup B1 hle b13
      have L3 : Hid (Low w3 w3.heap.size (.slice ao n0 cap) l) := (RL.out.below b13).low
      clear own3 b3 b2' O2 BR2 bE RLE BRE RL BR1 b13 A1 B1 s2 h11 h12
      refine (new_any _ _ (l ++ bh) (LB.out.append HBB.out) R3.out).mono ?_; rintro e' w4 ⟨rfl, r4, b4, z4⟩
      obtain ⟨K, hK⟩ : ∃ K, w3.heap.size = K := ⟨_, rfl⟩
      have lA := A3.lt
      rw [hK] at r4 b4 z4 L3 lA
      rw [hK]
      have A4 := A3.below b4 lA
      have B4 := bup B3 hle (show Below w3.heap.size w3 w4 by rw [hK]; exact b4)
      have L4 : Hid (Low w4 K (.slice ao n0 cap) l) := L3.out.below b4 (Nat.le_refl _)
      have R4 : Hid (Rdr w4 K K ⟨l ++ bh, 0, 0⟩) := r4
      have hKH : H ≤ K := by omega
      clear hK r4 b4 z4 L3 A3 B3 R3
      go_wp2_with fail
      refine (rec_read _ K K _ last R4.out).mono ?_; rw [RW0.out.1, RW0.out.2.1, RW0.out.2.2]; rintro e' w5 ⟨rfl, r5, g5⟩
      have A5 := A4.ch g5 (by omega)
      have B5 := Ch.up B4 g5 hKH
      have L5 : Hid (Low w5 K (.slice ao n0 cap) l) := L4.out.below g5.below (Nat.le_refl _)
      have R5 : Hid (Rdr w5 K K ⟨bh, 0 + (n0 : Int), 0⟩) := r5
      clear r5 g5 A4 B4 L4 R4 RW0
      have lA5 := A5.lt
      have eq : recB r r = true := recB_same r
      have x0 := A5.cell 0 _ rfl
      have x1 := A5.cell 1 _ rfl
      have x2 := A5.cell 2 _ rfl
      have x3 := A5.cell 3 _ rfl
      have x4 := A5.cell 4 _ rfl
      have x5 := A5.cell 5 _ rfl
      have x6 := A5.cell 6 _ rfl
      have x7 := A5.cell 7 _ rfl
      have x8 := A5.cell 8 _ rfl
      go_wp2_with fail
      generalize hV : w5.alloc (.cells (recA r) 25) = W6
      obtain ⟨_, bb, zz⟩ := boxed hV
      have B6 := bup B5 hle bb
      have L6 : Hid (Low W6 K (.slice ao n0 cap) l) := L5.out.below bb (by have := R5.out.lt; omega)
      have R6 : Hid (Rdr W6 K K ⟨bh, 0 + (n0 : Int), 0⟩) := R5.out.below bb R5.out.lt
      clear hV bb zz B5 L5 R5 A5 x0 x1 x2 x3 x4 x5 x6 x7 x8 lA5
      refine (at_any _ K K _ R6.out).mono ?_; rintro e' W7 ⟨rfl, rfl⟩
      have RD6 : Hid (Rd W7 (.slice ao n0 cap) l) := L6.out.rd
      have z0n : (0 : Int) + (n0 : Int) = (n0 : Int) := by omega
      clear L6 R6
      go_wp2_with fail
      go_loopw [66] (fun i wr => ∃ j : Nat, j ≤ n0 ∧ i = .int .i64 j ∧ Rd wr (.slice ao n0 cap) l ∧ Below H w wr) (fun i _ => n0 - (intOf i).toNat)
      case atStart => exact ⟨0, by omega, rfl, RD6.out, B6⟩
      case round =>
        obtain ⟨j, hj, rfl, q1, q2⟩ := hrel
        have Q1 : Hid (Rd wr (.slice ao n0 cap) l) := q1
        clear RD6
        by_cases hlt : j < n0
        · have CWj := CW.out j hlt
          have HCJ : Hid (redE ⟨l.take j, 0, 0⟩ last = 6 ∧ redT ⟨l.take j, 0, 0⟩ last = noRec) := CWj
          have i1 : (0 : Int) ≤ (j : Int) := by omega
          have i2 : (j : Int) ≤ (n0 : Int) := by omega
          have i3 : (j : Int) ≤ (cap : Int) := by omega
          have i4 : j ≤ cap := by omega
          have RC : Hid (Rd wr (.slice ao j cap) (l.take j)) := by
            obtain ⟨ao', cap', e, h1, h2, h3, h4⟩ := q1
            injection e with e1 e2 e3
            subst e1 e3
            refine ⟨ao, cap, by rw [List.length_take, HN0.out, Nat.min_eq_left (by omega)], by rw [List.length_take]; omega, h2, h3, ?_⟩
            rcases h4 with h | ⟨b, o, h, hat⟩
            · left; rw [h]; simp
            · exact Or.inr ⟨b, o, h, hat.take j⟩
          clear q1 CWj
          go_wp2_with fail
          refine (new_any _ _ (l.take j) (LB.out.take j) RC.out).mono ?_; rintro e' w8 ⟨rfl, r8, b8, z8⟩
          have QL : Hid (Low wr wr.heap.size (.slice ao n0 cap) l) := Q1.out.low
          have hs : H ≤ wr.heap.size := Nat.le_trans hle q2.size
          obtain ⟨K2, hK2⟩ : ∃ K, wr.heap.size = K := ⟨_, rfl⟩
          have B8 := bup q2 hle b8
          rw [hK2] at r8 b8 z8 QL hs
          rw [hK2]
          have R8 : Hid (Rdr w8 K2 K2 ⟨l.take j, 0, 0⟩) := r8
          have QL8 : Hid (Low w8 K2 (.slice ao n0 cap) l) := QL.out.below b8 (Nat.le_refl _)
          clear hK2 r8 b8 z8 QL q2 Q1 RC
          go_wp2_with fail
          refine (rec_read _ K2 K2 _ last R8.out).mono ?_; rw [HCJ.out.1, HCJ.out.2]; rintro e' w9 ⟨rfl, r9, g9⟩
          have B9 := Ch.up B8 g9 hs
          have QL9 : Hid (Low w9 K2 (.slice ao n0 cap) l) := QL8.out.below g9.below (Nat.le_refl _)
          have l9 : K2 < w9.heap.size := r9.lt
          clear r9 g9 R8 QL8 B8
          have en : recB noRec ⟨0, 0, 0, 0, 0, 0, 0, 0, 0⟩ = true := recB_same _
          have en2 : recB ⟨noRec.k, noRec.i, noRec.p0, noRec.p1, noRec.p2, noRec.v0, noRec.v1, noRec.v2, noRec.a⟩ ⟨0, 0, 0, 0, 0, 0, 0, 0, 0⟩ = true := recB_same _
          go_wp2_with fail
          have Be := B9.alloc (by omega) (.cells (recA noRec) 25)
          have Qe : Rd (w9.alloc (.cells (recA noRec) 25)) (.slice ao n0 cap) l := (QL9.out.below ((Below.refl _ _).alloc (Nat.le_refl _) _) (by omega)).rd
          go_roundw
          case rel => exact ⟨j + 1, by omega, by go_num, Qe, Be⟩
          case measure => simp [intOf]; omega
        · obtain rfl : j = n0 := by omega
          clear q1
          go_wp2_with fail
          refine (rec_alive _).mono ?_; rintro e' W8 ⟨rfl, bb⟩
          have B8 := bup q2 hle bb
          go_wp2_with fail
          go_ret
          exact ⟨rfl, HH.out ▸ B8⟩
  · have e0 : l = [] := NIL.out he
    have n00 : n0 = 0 := by rw [← HN0.out, e0]; rfl
    subst n00
    clear HN0 e0 HL HE NIL RDW CUTW
    have heq : (er == 0) = false := by simp [he]
    go_wp2_with fail
    refine (rec_alive _).mono ?_; rintro e' W2 ⟨rfl, bb⟩
    have B2 := bup B1 hle bb
    go_wp2_with fail
    go_ret
    exact ⟨rfl, HH.out ▸ B2⟩

set_option maxRecDepth 100000 in
theorem lifted (os : Os) (started : os.Started) (H : Type) (enc : TypeId × Value → H) :
    ReturnsInHanded {} Try.checked os 6 .any (Rows.recordBackSpec.pre6 enc Try.prog Try.f6 Rows.recordBackRow.domain false) (Rows.recordBackSpec.post enc Try.prog Try.f6 false true false false) := by
  refine returnsInHanded_of_change (C := Try.checked) own started (by kernel_rfl) Try.func6
    (ChangeSpec.witness6 (enc := enc) (C := Try.checked) false ⟨#[], #[.agg #[.int .i64 0, .int .i64 0, .int .i64 0, .int .i64 0, .int .i64 0, .int .i64 0, .int .i64 0, .int .i64 0, .int .u16 0], .int .i64 0, .slice none 0 0], []⟩ 8 (by kernel_rfl) (by kernel_rfl) (by kernel_rfl) (by kernel_rfl)) ?_
  intro W base args ds gs before hval0 hW hcnd _
  have hval : ∀ (j : Nat) t v, Try.f6.params[j]? = some t → args[j]? = some v → Value.okWide Try.prog W .any base t v := hval0
  have hW' := hW
  obtain ⟨p, q, hA0, hV, rfl, hfz, hnd⟩ := hW
  have hA : DataW.TrodAll enc Try.prog W 0 (fun _ => true) true Try.f6.params.toList args.toList ds p := hA0
  rw [Try.params6] at hA hval
  obtain ⟨v0, vs0, d0, ds0, p0, q0, hargs, rfl, rfl, h0, r0⟩ := trodAll_cons hA
  obtain ⟨v1, vs1, d1, ds1, p1, q1, rfl, rfl, rfl, h1, r1⟩ := trodAll_cons r0
  obtain ⟨v2, vs2, d2, ds2, p2, q2, rfl, rfl, rfl, h2, r2⟩ := trodAll_cons r1
  obtain ⟨rfl, rfl, rfl⟩ := trodAll_nil r2
  obtain rfl : args = #[v0, v1, v2] := by cases args; simp_all
  obtain ⟨rfl, rfl⟩ := trodVars_none hV
  have hlt := hW'.lt
  have k0 := h0
  obtain ⟨rc0, e0, b0⟩ := open_rec (hval 0 25 v0 rfl rfl) h0
  subst e0
  have k1 := h1
  obtain ⟨a1, rfl, rfl, rfl, w1⟩ := open_int Try.underlying3 (hval 1 3 v1 rfl rfl) h1
  have k2 := h2
  obtain ⟨l2, b2, e2⟩ := open_u8s (hval 2 26 v2 rfl rfl) h2
  clear hA0 hval0
  refine (walk W rc0 b0 a1 w1 v2 l2 b2 e2).mono fun e W' ⟨he, hg⟩ => ?_
  subst he
  exact ⟨_, rfl, post_of_below hW' (fun _ _ _ => (trodAll_cons_mk (shut_bool Try.underlying4 _) trodAll_mk0)) (trodAll_cons_mk (Below.trod laidOut (by kernel_rfl) (of_decide_eq_true (by kernel_rfl)) k0 hg (fun x hx => by first | exact absurd hx (by simp) | exact hlt x (by simp [hx]))) (trodAll_cons_mk (Below.trod laidOut (by kernel_rfl) (of_decide_eq_true (by kernel_rfl)) k1 hg (fun x hx => by first | exact absurd hx (by simp) | exact hlt x (by simp [hx]))) (trodAll_cons_mk (Below.trod laidOut (by kernel_rfl) (of_decide_eq_true (by kernel_rfl)) k2 hg (fun x hx => by first | exact absurd hx (by simp) | exact hlt x (by simp [hx]))) trodAll_mk0))) rfl hg⟩

theorem over : Rows.recordBackRow.holds Try.pinned (OpenSpec.ofChange Rows.recordBackSpec) :=
  OpenClaim.holds_of_wide 6 Try.f6 rfl rfl rfl rfl rfl rfl rfl ⟨rfl, rfl, rfl, rfl, rfl⟩ rfl rfl rfl rfl rfl (by kernel_rfl) Try.func6 (by kernel_rfl)
    (of_decide_eq_true (by kernel_rfl)) (by unfold Func.isWrapper; first | (rw [if_pos (by decide +kernel)]; kernel_rfl) | (rw [if_neg (by decide +kernel)]; exact ⟨rfl, rfl⟩))
    (fun os started H enc _ => lifted os started H enc)
end RecordBackL

theorem recordBack_proved : Rows.RecordBackSaid := RecordBackL.over
#print axioms recordBack_proved
end Go.Proofs.Ytjjaodlgnoiheaa
