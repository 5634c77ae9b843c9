/-
  Proved: a record that was read of any bytes is written as those, and may be (the law RecordOne answers true at every input).
  Conditions: none.
-/
import Derived.Test.YtjjaodlgnoiheaaRows
import Derived.Test.YtjjaodlgnoiheaaFr8
import Derived.Test.YtjjaodlgnoiheaaRec16
import Derived.Test.YtjjaodlgnoiheaaRec20
import Derived.Test.YtjjaodlgnoiheaaRec8
namespace Go.Proofs.Ytjjaodlgnoiheaa
open Go.ChangeShapes Go.WideShapes Go.ChangeAt Go.RowKit
set_option linter.unusedVariables false

namespace RecordOneL
theorem own : ownKnob Try.prog.godebug = none := by kernel_rfl

attribute [local go_sem ↓] eqR_run eqE_run eq6_run
set_option maxRecDepth 8000 in
set_option maxHeartbeats 8000000 in
theorem walk (w : World) (v : Value) (l : List Int) (hb : Bytes l) (h : Rd w v l) (last : Int) (hl : (Lit.int .i64 last).wf = true) :
    Calls Try.prog 7 #[v, .int .i64 last] w fun e w' => e = .returned (.bool true) ∧ Below w.heap.size w w' := by
  have HR : Hid (Rd w v l) := h
  have HB : Hid (Bytes l) := hb
  obtain ⟨ao, cap, rfl, hc, hm, hz, _⟩ := h
  obtain ⟨n, hn⟩ : ∃ n, l.length = n := ⟨_, rfl⟩
  rw [hn] at hc HR ⊢
  have bl := wf_i64 hl
  have BL : Hid (S64 last) := bl
  have HN : Hid (l.length = n) := hn
  clear hb hl hn bl
  go_enter Try.func7, Try.ntmps7
  go_wp2_with fail
  refine (new_any _ _ l HB.out HR.out).mono ?_; rintro e w1 ⟨rfl, r1, b1, z1⟩
  obtain ⟨K, hK⟩ : ∃ K, w.heap.size = K := ⟨_, rfl⟩
  have HK : Hid (w.heap.size = K) := hK
  rw [hK] at r1 b1 z1
  rw [hK]
  have R1 : Hid (Rdr w1 K K ⟨l, 0, 0⟩) := r1
  have RD1 : Hid (Rd w1 (.slice ao n cap) l) := HR.out.below (by rw [hK]; exact b1)
  have B1 : Hid (Below K w w1) := b1
  have L0 : Hid (Low w K (.slice ao n cap) l) := hK ▸ HR.out.low
  clear r1 b1 HR hK
  go_wp2_with fail
  refine (rec_alive _).mono ?_; rintro e w2 ⟨rfl, b2⟩
  have R2 : Hid (Rdr w2 K K ⟨l, 0, 0⟩) := R1.out.below b2 R1.out.lt
  have RD2 : Hid (Rd w2 (.slice ao n cap) l) := RD1.out.below b2
  have B2 : Hid (Below K w w2) := bup B1.out (by rw [← HK.out]; exact Nat.le_refl _) b2
  have s2 : K < w2.heap.size := R2.out.lt
  have Lo : Hid (Low w2 K (.slice ao n cap) l) := Low.below L0.out B2.out (Nat.le_refl _)
  clear R1 RD1 B1 b2 z1
  by_cases hbig : 1000 < n
  · go_wp2_with fail
    refine (rec_alive _).mono ?_; rintro e w3 ⟨rfl, b3⟩
    go_wp2_with fail
    go_ret
    exact ⟨rfl, by rw [HK.out]; exact bup B2.out (by rw [← HK.out]; exact Nat.le_refl _) b3⟩
  · go_wp2_with fail
    obtain ⟨T, hT⟩ : ∃ T, redT ⟨l, 0, 0⟩ last = T := ⟨_, rfl⟩
    obtain ⟨S, hS⟩ : ∃ S, redS ⟨l, 0, 0⟩ last = S := ⟨_, rfl⟩
    obtain ⟨E, hE⟩ : ∃ E, redE ⟨l, 0, 0⟩ last = E := ⟨_, rfl⟩
    have HT : Hid (redT ⟨l, 0, 0⟩ last = T ∧ redS ⟨l, 0, 0⟩ last = S ∧ redE ⟨l, 0, 0⟩ last = E) := ⟨hT, hS, hE⟩
    have NO : Hid (E ≠ 0 → T = noRec) := fun h => by rw [← hT]; exact red_no (by rw [hE]; exact h)
    have YES : Hid (E = 0 → T.ok ∧ wrE T last = 0 ∧ Tk ⟨l, 0, 0⟩ S (wrB T last)) := fun h => by rw [← hT, ← hS]; exact one_read HB.out (by rw [hE]; exact h)
    clear hT hS hE
    refine (rec_read _ K K _ last R2.out).mono ?_; rw [HT.out.1, HT.out.2.1, HT.out.2.2]; rintro e w4 ⟨rfl, r4, g4⟩
    have R4 : Hid (Rdr w4 K K S) := r4
    have B4 := Ch.up B2.out g4 (Nat.le_refl _)
    have s4 : K < w4.heap.size := r4.lt
    have LO4 : Hid (Low w4 K (.slice ao n cap) l) := Lo.out.below g4.below (Nat.le_refl _)
    clear R2 RD2 B2 Lo g4 r4 HT s2
    have hle : K ≤ w.heap.size := by rw [← HK.out]; exact Nat.le_refl _
    by_cases he : E = 0
    · obtain ⟨okT, w0, tk⟩ := YES.out he
      subst he
      obtain ⟨L, hL⟩ : ∃ L, wrB T last = L := ⟨_, rfl⟩
      rw [hL] at tk
      have HW : Hid (wrB T last = L ∧ wrE T last = 0) := ⟨hL, w0⟩
      have OKT : Hid T.ok := okT
      have HC : Hid (chk T = 0) := (wrE_ok w0).1
      obtain ⟨m, hm⟩ : ∃ m, L.length = m := ⟨_, rfl⟩
      have hSn : S.n = (m : Int) := by have h := tk.n; rw [hm] at h; simpa using h
      have hml : m ≤ n := by have h := congrArg List.length tk.l; rw [List.length_append, hm, HN.out] at h; omega
      have hLt : L = l.take m := by have h : l = L ++ S.l := tk.l; rw [h, ← hm]; simp
      have HLT : Hid (L = l.take m) := hLt
      clear NO YES tk hL w0 okT hLt
      go_wp2_with fail
      generalize hV : w4.alloc (.cells (recA T) 25) = W5
      obtain ⟨X5, bb, zz⟩ := boxed hV
      have R5 : Hid (Rdr W5 K K S) := R4.out.below bb R4.out.lt
      have LO5 : Hid (Low W5 K (.slice ao n cap) l) := LO4.out.below bb (by omega)
      have B5 := bup B4 hle bb
      obtain ⟨MX, hMX⟩ : ∃ M, w4.heap.size = M := ⟨_, rfl⟩
      rw [hMX] at X5
      rw [hMX]
      clear hMX hV zz bb R4 B4 LO4 s4
      refine (rec_write _ T last OKT.out BL.out).mono ?_; rw [HW.out.1, HW.out.2]; rintro e W6 ⟨u8, rfl, own6, bb⟩
      have R6 : Hid (Rdr W6 K K S) := R5.out.below bb R5.out.lt
      have LO6 : Hid (Low W6 K (.slice ao n cap) l) := LO5.out.below bb (by have := R5.out.lt; omega)
      have X6 := X5.below bb X5.lt
      have B6 := bup B5 hle bb
      have RU : Hid (Rd W6 u8 L) := own6.rd
      clear own6 bb R5 LO5 X5 B5
      go_wp2_with fail
      refine (at_any _ K K S R6.out).mono ?_; rw [hSn]; rintro e W7 ⟨rfl, rfl⟩
      obtain ⟨Z, hZ⟩ : ∃ Z, strOfNums L = Z := ⟨_, rfl⟩
      have HZ : Hid (strOfNums L = Z) := hZ
      have CUT : Hid (∀ V : World, Low V K (.slice ao n cap) l → Rd V (.slice ao m cap) L) := fun V h => by
        rw [HLT.out]
        obtain ⟨ao', cap', e, h1, h2, h3, h4⟩ := h
        injection e with e1 e2 e3
        subst e1 e3
        refine ⟨ao, cap, by rw [List.length_take, HN.out, Nat.min_eq_left hml], by rw [List.length_take]; omega, h2, h3, ?_⟩
        rcases h4 with h | ⟨b, o, h, _, hat⟩
        · left; rw [h]; simp
        · exact Or.inr ⟨b, o, h, hat.take m⟩
      clear hZ hSn
      have i1 : (0 : Int) ≤ (m : Int) := by omega
      have i2 : (m : Int) ≤ (n : Int) := by omega
      have i3 : (m : Int) ≤ (cap : Int) := by omega
      have i4 : m ≤ cap := by omega
      have lx := X6.lt
      have y0_0 := X6.cell 0 _ rfl
      have y1_0 := X6.cell 1 _ rfl
      have y2_0 := X6.cell 2 _ rfl
      have y3_0 := X6.cell 3 _ rfl
      have y4_0 := X6.cell 4 _ rfl
      have y5_0 := X6.cell 5 _ rfl
      have y6_0 := X6.cell 6 _ rfl
      have y7_0 := X6.cell 7 _ rfl
      have y8_0 := X6.cell 8 _ rfl
      have p_0 : (convert 26 9 (u8)).run Try.prog W7 = .ok (.string Z) W7 := (str_run RU.out).trans (by rw [HZ.out])
      have q_0 : (convert 26 9 (.slice ao m cap)).run Try.prog W7 = .ok (.string Z) W7 := (str_run (CUT.out _ LO6.out)).trans (by rw [HZ.out])
      have p_0d : (convert 26 9 (u8)).run Try.prog W7.drew = .ok (.string Z) W7.drew := (str_run (w := W7.drew) RU.out).trans (by rw [HZ.out])
      have q_0d : (convert 26 9 (.slice ao m cap)).run Try.prog W7.drew = .ok (.string Z) W7.drew := (str_run (w := W7.drew) (CUT.out W7.drew LO6.out)).trans (by rw [HZ.out])
      go_wp2_with fail
      go_region_held3 (fun w' => w'.cell? ⟨MX, 0, none⟩ = some (.int .i64 T.k) ∧ w'.cell? ⟨MX, 1, none⟩ = some (.int .i64 T.i) ∧ w'.cell? ⟨MX, 2, none⟩ = some (.int .i64 T.p0) ∧ w'.cell? ⟨MX, 3, none⟩ = some (.int .i64 T.p1) ∧ w'.cell? ⟨MX, 4, none⟩ = some (.int .i64 T.p2) ∧ w'.cell? ⟨MX, 5, none⟩ = some (.int .i64 T.v0) ∧ w'.cell? ⟨MX, 6, none⟩ = some (.int .i64 T.v1) ∧ w'.cell? ⟨MX, 7, none⟩ = some (.int .i64 T.v2) ∧ w'.cell? ⟨MX, 8, none⟩ = some (.int .u16 T.a) ∧ (convert 26 9 (u8)).run Try.prog w' = .ok (.string Z) w' ∧ (convert 26 9 (.slice ao m cap)).run Try.prog w' = .ok (.string Z) w') (first | with_reducible exact ⟨y0_1, y1_1, y2_1, y3_1, y4_1, y5_1, y6_1, y7_1, y8_1, p_1, q_1⟩ | with_reducible exact ⟨y0_0, y1_0, y2_0, y3_0, y4_0, y5_0, y6_0, y7_0, y8_0, p_0d, q_0d⟩ | with_reducible exact ⟨y0_0, y1_0, y2_0, y3_0, y4_0, y5_0, y6_0, y7_0, y8_0, p_0, q_0⟩ | go_keep)
        (first | (go_at_call 15; (with_reducible refine (rec_check _ T).mono ?_); rw [HC.out]; rintro e' v1 ⟨rfl, bb⟩; have A1 := X6.drew.below bb X6.lt; have B7 := bup B6.drew hle bb; have RU1 : Hid (Rd v1 u8 L) := Rd.below (w := W7.drew) RU.out bb; have LO7 : Hid (Low v1 K (.slice ao n cap) l) := Low.below (w := W7.drew) LO6.out bb (by have := R6.out.lt; show K ≤ W7.heap.size; omega); clear bb; have y0_1 := A1.cell 0 _ rfl; have y1_1 := A1.cell 1 _ rfl; have y2_1 := A1.cell 2 _ rfl; have y3_1 := A1.cell 3 _ rfl; have y4_1 := A1.cell 4 _ rfl; have y5_1 := A1.cell 5 _ rfl; have y6_1 := A1.cell 6 _ rfl; have y7_1 := A1.cell 7 _ rfl; have y8_1 := A1.cell 8 _ rfl; have p_1 : (convert 26 9 (u8)).run Try.prog v1 = .ok (.string Z) v1 := (str_run RU1.out).trans (by rw [HZ.out]); have q_1 : (convert 26 9 (.slice ao m cap)).run Try.prog v1 = .ok (.string Z) v1 := (str_run (CUT.out _ LO7.out)).trans (by rw [HZ.out])))
      go_wp2_with fail
      go_ret
      exact ⟨ret_bool (by simp; try omega), HK.out ▸ B7⟩
    · have eT := NO.out he
      have eq : recB noRec ⟨0, 0, 0, 0, 0, 0, 0, 0, 0⟩ = true := recB_same _
      subst eT
      clear YES NO
      have eq2 : recB ⟨noRec.k, noRec.i, noRec.p0, noRec.p1, noRec.p2, noRec.v0, noRec.v1, noRec.v2, noRec.a⟩ ⟨0, 0, 0, 0, 0, 0, 0, 0, 0⟩ = true := recB_same _
      go_wp2_with fail
      go_ret
      exact ⟨rfl, by rw [HK.out]; exact B4.alloc (by omega) _⟩

set_option maxRecDepth 100000 in
theorem lifted (os : Os) (started : os.Started) (H : Type) (enc : TypeId × Value → H) :
    ReturnsInHanded {} Try.checked os 7 .any (Rows.recordOneSpec.pre6 enc Try.prog Try.f7 Rows.recordOneRow.domain false) (Rows.recordOneSpec.post enc Try.prog Try.f7 false true false false) := by
  refine returnsInHanded_of_change (C := Try.checked) own started (by kernel_rfl) Try.func7
    (ChangeSpec.witness6 (enc := enc) (C := Try.checked) false ⟨#[], #[.slice none 0 0, .int .i64 0], []⟩ 8 (by kernel_rfl) (by kernel_rfl) (by kernel_rfl) (by kernel_rfl)) ?_
  intro W base args ds gs before hval0 hW hcnd _
  have hval : ∀ (j : Nat) t v, Try.f7.params[j]? = some t → args[j]? = some v → Value.okWide Try.prog W .any base t v := hval0
  have hW' := hW
  obtain ⟨p, q, hA0, hV, rfl, hfz, hnd⟩ := hW
  have hA : DataW.TrodAll enc Try.prog W 0 (fun _ => true) true Try.f7.params.toList args.toList ds p := hA0
  rw [Try.params7] at hA hval
  obtain ⟨v0, vs0, d0, ds0, p0, q0, hargs, rfl, rfl, h0, r0⟩ := trodAll_cons hA
  obtain ⟨v1, vs1, d1, ds1, p1, q1, rfl, rfl, rfl, h1, r1⟩ := trodAll_cons r0
  obtain ⟨rfl, rfl, rfl⟩ := trodAll_nil r1
  obtain rfl : args = #[v0, v1] := by cases args; simp_all
  obtain ⟨rfl, rfl⟩ := trodVars_none hV
  have hlt := hW'.lt
  have k0 := h0
  obtain ⟨l0, b0, e0⟩ := open_u8s (hval 0 26 v0 rfl rfl) h0
  have k1 := h1
  obtain ⟨a1, rfl, rfl, rfl, w1⟩ := open_int Try.underlying3 (hval 1 3 v1 rfl rfl) h1
  clear hA0 hval0
  refine (walk W v0 l0 b0 e0 a1 w1).mono fun e W' ⟨he, hg⟩ => ?_
  subst he
  exact ⟨_, rfl, post_of_below hW' (fun _ _ _ => (trodAll_cons_mk (shut_bool Try.underlying4 _) trodAll_mk0)) (trodAll_cons_mk (Below.trod laidOut (by kernel_rfl) (of_decide_eq_true (by kernel_rfl)) k0 hg (fun x hx => by first | exact absurd hx (by simp) | exact hlt x (by simp [hx]))) (trodAll_cons_mk (Below.trod laidOut (by kernel_rfl) (of_decide_eq_true (by kernel_rfl)) k1 hg (fun x hx => by first | exact absurd hx (by simp) | exact hlt x (by simp [hx]))) trodAll_mk0)) rfl hg⟩

theorem over : Rows.recordOneRow.holds Try.pinned (OpenSpec.ofChange Rows.recordOneSpec) :=
  OpenClaim.holds_of_wide 7 Try.f7 rfl rfl rfl rfl rfl rfl rfl ⟨rfl, rfl, rfl, rfl, rfl⟩ rfl rfl rfl rfl rfl (by kernel_rfl) Try.func7 (by kernel_rfl)
    (of_decide_eq_true (by kernel_rfl)) (by unfold Func.isWrapper; first | (rw [if_pos (by decide +kernel)]; kernel_rfl) | (rw [if_neg (by decide +kernel)]; exact ⟨rfl, rfl⟩))
    (fun os started H enc _ => lifted os started H enc)
end RecordOneL

theorem recordOne_proved : Rows.RecordOneSaid := RecordOneL.over
#print axioms recordOne_proved
end Go.Proofs.Ytjjaodlgnoiheaa
