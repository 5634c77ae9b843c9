/-
  Proved: of any bytes, behind any record, what Read takes off a reader is the document's own record, or why there is none, and where the reader stands (the law RecordReads answers true at every input).
  Conditions: none.
-/
import Derived.Test.YtjjaodlgnoiheaaRows
import Derived.Test.YtjjaodlgnoiheaaFr8
import Derived.Test.YtjjaodlgnoiheaaRec18
import Derived.Test.YtjjaodlgnoiheaaRec8
namespace Go.Proofs.Ytjjaodlgnoiheaa
open Go.ChangeShapes Go.WideShapes Go.ChangeAt Go.RowKit
set_option linter.unusedVariables false

namespace RecordReadsL
theorem own : ownKnob Try.prog.godebug = none := by kernel_rfl

attribute [local go_sem ↓] eqR_run eqE_run eq6_run
set_option maxRecDepth 8000 in
set_option maxHeartbeats 8000000 in
theorem walk (w : World) (v : Value) (l : List Int) (hb : Bytes l) (h : Rd w v l) (last : Int) (hl : (Lit.int .i64 last).wf = true) :
    Calls Try.prog 4 #[v, .int .i64 last] w fun e w' => e = .returned (.bool true) ∧ Below w.heap.size w w' := by
  have HR : Hid (Rd w v l) := h
  have HB : Hid (Bytes l) := hb
  obtain ⟨ao, cap, rfl, hc, hm, hz, _⟩ := h
  obtain ⟨n, hn⟩ : ∃ n, l.length = n := ⟨_, rfl⟩
  rw [hn] at hc HR ⊢
  clear hb hl hn
  go_enter Try.func4, Try.ntmps4
  go_wp2_with fail
  refine (new_any _ _ l HB.out HR.out).mono ?_; rintro e w1 ⟨rfl, r1, b1, z1⟩
  obtain ⟨K, hK⟩ : ∃ K, w.heap.size = K := ⟨_, rfl⟩
  have HK : Hid (w.heap.size = K) := hK
  rw [hK] at r1 b1 z1
  rw [hK]
  have R1 : Hid (Rdr w1 K K ⟨l, 0, 0⟩) := r1
  have RD1 : Hid (Rd w1 (.slice ao n cap) l) := HR.out.below (by rw [hK]; exact b1)
  have B1 : Hid (Below K w w1) := b1
  have L0 : Hid (Low w K (.slice ao n cap) l) := hK ▸ HR.out.low
  clear r1 b1 HR hK
  go_wp2_with fail
  refine (rec_alive _).mono ?_; rintro e w2 ⟨rfl, b2⟩
  have R2 : Hid (Rdr w2 K K ⟨l, 0, 0⟩) := R1.out.below b2 R1.out.lt
  have RD2 : Hid (Rd w2 (.slice ao n cap) l) := RD1.out.below b2
  have B2 : Hid (Below K w w2) := bup B1.out (by rw [← HK.out]; exact Nat.le_refl _) b2
  have s2 : K < w2.heap.size := R2.out.lt
  have Lo : Hid (Low w2 K (.slice ao n cap) l) := Low.below L0.out B2.out (Nat.le_refl _)
  clear R1 RD1 B1 b2 z1
  by_cases hbig : 1000 < n
  · go_wp2_with fail
    refine (rec_alive _).mono ?_; rintro e w3 ⟨rfl, b3⟩
    go_wp2_with fail
    go_ret
    exact ⟨rfl, by rw [HK.out]; exact bup B2.out (by rw [← HK.out]; exact Nat.le_refl _) b3⟩
  · go_wp2_with fail
    obtain ⟨T, hT⟩ : ∃ T, redT ⟨l, 0, 0⟩ last = T := ⟨_, rfl⟩
    obtain ⟨S, hS⟩ : ∃ S, redS ⟨l, 0, 0⟩ last = S := ⟨_, rfl⟩
    obtain ⟨E, hE⟩ : ∃ E, redE ⟨l, 0, 0⟩ last = E := ⟨_, rfl⟩
    have HT : Hid (redT ⟨l, 0, 0⟩ last = T ∧ redS ⟨l, 0, 0⟩ last = S ∧ redE ⟨l, 0, 0⟩ last = E) := ⟨hT, hS, hE⟩
    clear hT hS hE
    have D3' := Rdr.newL Lo.out (by omega) HB.out 40
    have R3' := R2.out.below ((Below.refl _ w2).alloc (Nat.le_refl _) (.cells #[.slice ao n cap, .int .i64 0, .int .i64 0] 40)) s2
    have B3 := B2.out.alloc (by omega) (.cells #[.slice ao n cap, .int .i64 0, .int .i64 0] 40)
    generalize w2.alloc (.cells #[.slice ao n cap, .int .i64 0, .int .i64 0] 40) = W3 at D3' R3' B3 ⊢
    obtain ⟨M, hM⟩ : ∃ M, w2.heap.size = M := ⟨_, rfl⟩
    have KM : K < M := by omega
    rw [hM] at D3'
    rw [hM]
    have D3 : Hid (Rdr W3 K M ⟨l, 0, 0⟩) := D3'
    have R3 : Hid (Rdr W3 K K ⟨l, 0, 0⟩) := R3'
    clear hM D3' R3' R2 RD2 B2 Lo s2
    refine (rec_read _ K K _ last R3.out).mono ?_; rw [HT.out.1, HT.out.2.1, HT.out.2.2]; rintro e w4 ⟨rfl, r4, g4⟩
    have D4 : Hid (Rdr w4 K M ⟨l, 0, 0⟩) := D3.out.ch g4 (by omega) (Nat.le_refl _)
    have R4 : Hid (Rdr w4 K K S) := r4
    have B4 := Ch.up B3 g4 (Nat.le_refl _)
    clear D3 R3 B3 g4 r4
    go_wp2_with fail
    generalize hV : w4.alloc (.cells (recA T) 25) = W5
    obtain ⟨X5, bb, zz⟩ := boxed hV
    have D5 : Hid (Rdr W5 K M ⟨l, 0, 0⟩) := D4.out.below bb D4.out.lt
    have R5 : Hid (Rdr W5 K K S) := R4.out.below bb R4.out.lt
    have B5 := bup B4 (by rw [← HK.out]; exact Nat.le_refl _) bb
    obtain ⟨MX, hMX⟩ : ∃ M, w4.heap.size = M := ⟨_, rfl⟩
    have MMX : M < MX := by have := D4.out.lt; omega
    rw [hMX] at X5
    rw [hMX]
    clear hMX hV zz bb D4 R4 B4
    refine (doc_read _ K M _ last D5.out).mono ?_; rw [HT.out.1, HT.out.2.1, HT.out.2.2]; rintro e w6 ⟨rfl, r6, g6⟩
    have R6 : Hid (Rdr w6 K K S) := R5.out.ch g6 (by omega) (by omega)
    have D6 : Hid (Rdr w6 K M S) := r6
    have X6 := X5.ch g6 (by omega)
    have B6 := Ch.up B5 g6 (by omega)
    clear D5 R5 B5 X5 g6 r6
    go_wp2_with fail
    generalize hV : w6.alloc (.cells (recA T) 25) = W7
    obtain ⟨Y7, bb, zz⟩ := boxed hV
    have D7 : Hid (Rdr W7 K M S) := D6.out.below bb D6.out.lt
    have R7 : Hid (Rdr W7 K K S) := R6.out.below bb R6.out.lt
    have X7 := X6.below bb X6.lt
    have B7 := bup B6 (by rw [← HK.out]; exact Nat.le_refl _) bb
    obtain ⟨MY, hMY⟩ : ∃ M, w6.heap.size = M := ⟨_, rfl⟩
    rw [hMY] at Y7
    rw [hMY]
    clear hMY hV zz bb D6 R6 B6 X6
    refine (rec_read_nil _ last).mono ?_; rintro e w8 ⟨rfl, bb⟩
    have D8 : Hid (Rdr w8 K M S) := D7.out.below bb D7.out.lt
    have R8 : Hid (Rdr w8 K K S) := R7.out.below bb R7.out.lt
    have X8 := X7.below bb X7.lt
    have Y8 := Y7.below bb Y7.lt
    have B8 := bup B7 (by rw [← HK.out]; exact Nat.le_refl _) bb
    clear bb D7 R7 X7 Y7 B7
    have lx := X8.lt
    have ly := Y8.lt
    have lM := D8.out.lt
    go_wp2_with fail
    generalize hV : w8.alloc (.cells (recA noRec) 25) = W9
    obtain ⟨_, bb, zz⟩ := boxed hV
    have D9 : Hid (Rdr W9 K M S) := D8.out.below bb D8.out.lt
    have R9 : Hid (Rdr W9 K K S) := R8.out.below bb R8.out.lt
    have X9 := X8.below bb X8.lt
    have Y9 := Y8.below bb Y8.lt
    have B9 := bup B8 (by rw [← HK.out]; exact Nat.le_refl _) bb
    clear bb hV zz D8 R8 X8 Y8 B8 lx ly lM
    obtain ⟨vv, hv⟩ := D9.out
    have ce := hv.c2
    have cn := hv.c1
    clear hv
    obtain ⟨sn, hsn⟩ : ∃ x, S.n = x := ⟨_, rfl⟩
    obtain ⟨se, hse⟩ : ∃ x, S.e = x := ⟨_, rfl⟩
    have HSN : Hid (S.n = sn ∧ S.e = se) := ⟨hsn, hse⟩
    rw [hsn] at cn
    rw [hse] at ce
    clear hsn hse
    have er : ∀ N, Calls Try.prog 20 #[.pointer (some ⟨K, 0, none⟩)] (W9.drewN N) fun e w' => e = .returned (.int .i64 se) ∧ w' = W9.drewN N := fun N => by rw [← HSN.out.2]; exact err_any _ K K S (R9.out.drewN N)
    have at_ : ∀ N, Calls Try.prog 21 #[.pointer (some ⟨K, 0, none⟩)] (W9.drewN N) fun e w' => e = .returned (.int .i64 sn) ∧ w' = W9.drewN N := fun N => by rw [← HSN.out.1]; exact at_any _ K K S (R9.out.drewN N)
    have eT : recB T T = true := recB_same T
    have lx := X9.lt
    have ly := Y9.lt
    have lM := D9.out.lt
    have x0 := X9.cell 0 _ rfl
    have x1 := X9.cell 1 _ rfl
    have x2 := X9.cell 2 _ rfl
    have x3 := X9.cell 3 _ rfl
    have x4 := X9.cell 4 _ rfl
    have x5 := X9.cell 5 _ rfl
    have x6 := X9.cell 6 _ rfl
    have x7 := X9.cell 7 _ rfl
    have x8 := X9.cell 8 _ rfl
    have y0 := Y9.cell 0 _ rfl
    have y1 := Y9.cell 1 _ rfl
    have y2 := Y9.cell 2 _ rfl
    have y3 := Y9.cell 3 _ rfl
    have y4 := Y9.cell 4 _ rfl
    have y5 := Y9.cell 5 _ rfl
    have y6 := Y9.cell 6 _ rfl
    have y7 := Y9.cell 7 _ rfl
    have y8 := Y9.cell 8 _ rfl
    go_quiet (first | (go_at_call 20; exact Calls.quiet_of_same (er _)) | (go_at_call 21; exact Calls.quiet_of_same (at_ _)))
    go_wp2_with fail
    go_ret
    exact ⟨ret_bool (by simp), by rw [HK.out]; exact below_drewN B9 _⟩

set_option maxRecDepth 100000 in
theorem lifted (os : Os) (started : os.Started) (H : Type) (enc : TypeId × Value → H) :
    ReturnsInHanded {} Try.checked os 4 .any (Rows.recordReadsSpec.pre6 enc Try.prog Try.f4 Rows.recordReadsRow.domain false) (Rows.recordReadsSpec.post enc Try.prog Try.f4 false true false false) := by
  refine returnsInHanded_of_change (C := Try.checked) own started (by kernel_rfl) Try.func4
    (ChangeSpec.witness6 (enc := enc) (C := Try.checked) false ⟨#[], #[.slice none 0 0, .int .i64 0], []⟩ 8 (by kernel_rfl) (by kernel_rfl) (by kernel_rfl) (by kernel_rfl)) ?_
  intro W base args ds gs before hval0 hW hcnd _
  have hval : ∀ (j : Nat) t v, Try.f4.params[j]? = some t → args[j]? = some v → Value.okWide Try.prog W .any base t v := hval0
  have hW' := hW
  obtain ⟨p, q, hA0, hV, rfl, hfz, hnd⟩ := hW
  have hA : DataW.TrodAll enc Try.prog W 0 (fun _ => true) true Try.f4.params.toList args.toList ds p := hA0
  rw [Try.params4] at hA hval
  obtain ⟨v0, vs0, d0, ds0, p0, q0, hargs, rfl, rfl, h0, r0⟩ := trodAll_cons hA
  obtain ⟨v1, vs1, d1, ds1, p1, q1, rfl, rfl, rfl, h1, r1⟩ := trodAll_cons r0
  obtain ⟨rfl, rfl, rfl⟩ := trodAll_nil r1
  obtain rfl : args = #[v0, v1] := by cases args; simp_all
  obtain ⟨rfl, rfl⟩ := trodVars_none hV
  have hlt := hW'.lt
  have k0 := h0
  obtain ⟨l0, b0, e0⟩ := open_u8s (hval 0 26 v0 rfl rfl) h0
  have k1 := h1
  obtain ⟨a1, rfl, rfl, rfl, w1⟩ := open_int Try.underlying3 (hval 1 3 v1 rfl rfl) h1
  clear hA0 hval0
  refine (walk W v0 l0 b0 e0 a1 w1).mono fun e W' ⟨he, hg⟩ => ?_
  subst he
  exact ⟨_, rfl, post_of_below hW' (fun _ _ _ => (trodAll_cons_mk (shut_bool Try.underlying4 _) trodAll_mk0)) (trodAll_cons_mk (Below.trod laidOut (by kernel_rfl) (of_decide_eq_true (by kernel_rfl)) k0 hg (fun x hx => by first | exact absurd hx (by simp) | exact hlt x (by simp [hx]))) (trodAll_cons_mk (Below.trod laidOut (by kernel_rfl) (of_decide_eq_true (by kernel_rfl)) k1 hg (fun x hx => by first | exact absurd hx (by simp) | exact hlt x (by simp [hx]))) trodAll_mk0)) rfl hg⟩

theorem over : Rows.recordReadsRow.holds Try.pinned (OpenSpec.ofChange Rows.recordReadsSpec) :=
  OpenClaim.holds_of_wide 4 Try.f4 rfl rfl rfl rfl rfl rfl rfl ⟨rfl, rfl, rfl, rfl, rfl⟩ rfl rfl rfl rfl rfl (by kernel_rfl) Try.func4 (by kernel_rfl)
    (of_decide_eq_true (by kernel_rfl)) (by unfold Func.isWrapper; first | (rw [if_pos (by decide +kernel)]; kernel_rfl) | (rw [if_neg (by decide +kernel)]; exact ⟨rfl, rfl⟩))
    (fun os started H enc _ => lifted os started H enc)
end RecordReadsL

theorem recordReads_proved : Rows.RecordReadsSaid := RecordReadsL.over
#print axioms recordReads_proved
end Go.Proofs.Ytjjaodlgnoiheaa
