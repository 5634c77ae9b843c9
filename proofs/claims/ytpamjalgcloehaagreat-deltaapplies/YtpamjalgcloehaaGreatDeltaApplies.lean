/-
  Proved: of any snapshot and any datagram, what Apply makes and what it refuses is as the document says (the law DeltaApplies answers true at every input).
  Conditions: none.
-/
import Derived.Test.YtpamjalgcloehaaGreatRows
import Derived.Test.YtpamjalgcloehaaGreatP25
namespace Go.Proofs.YtpamjalgcloehaaGreat
open Go.ChangeShapes Go.WideShapes Go.ChangeAt Go.RowKit
set_option linter.unusedVariables false

namespace DeltaAppliesL
theorem own : ownKnob Tryz.prog.godebug = none := by kernel_rfl

set_option maxRecDepth 20000 in
set_option maxHeartbeats 8000000 in
theorem walk (w : World) (t0 m0 : Int) (u0 : Value) (n0 : Nat) (A0 : Nat → En) (s0 : S64 t0) (s0' : S64 m0) (e0 : ∀ i, i < n0 → (A0 i).ok) (r0 : RdE w u0 n0 A0) (g : Gm) (ok : g.ok) (v : Value) (n1 : Nat) (A1 : Nat → Rc) (hA : ∀ i, i < n1 → (A1 i).ok) (hv : RdR w v n1 A1) :
    Calls Tryz.prog 4 #[snV t0 m0 u0, gmV g v] w fun e w' => e = .returned (.bool true) ∧ Below w.heap.size w w' := by
  have AP : Hid (∀ w', Below w.heap.size w w' → Calls Tryz.prog 16 #[snV t0 m0 u0, gmV g v] w' fun e w'' => ∃ u, e = .returned (.tuple #[snV (apT t0 m0 (preE A0 n0) g A1 n1) (apM t0 m0 (preE A0 n0) g A1 n1) u, .int .i64 (aplE t0 m0 (preE A0 n0) g A1 n1)]) ∧ OwnE w'' w'.heap.size u (aplL t0 m0 (preE A0 n0) g A1 n1) ∧ Below w'.heap.size w' w'') := fun w' h => dl_apply w' t0 m0 u0 n0 A0 (r0.below h) g ok v n1 A1 hA (hv.below h)
  have DA : Hid (∀ w', Below w.heap.size w w' → Calls Tryz.prog 17 #[snV t0 m0 u0, gmV g v] w' fun e w'' => ∃ u, e = .returned (.tuple #[snV (apT t0 m0 (preE A0 n0) g A1 n1) (apM t0 m0 (preE A0 n0) g A1 n1) u, .int .i64 (aplE t0 m0 (preE A0 n0) g A1 n1)]) ∧ OwnE w'' w'.heap.size u (aplL t0 m0 (preE A0 n0) g A1 n1) ∧ Below w'.heap.size w' w'') := fun w' h => da_apply w' t0 m0 u0 n0 A0 (r0.below h) g ok v n1 A1 hA (hv.below h)
  obtain ⟨T, hT⟩ : ∃ x, apT t0 m0 (preE A0 n0) g A1 n1 = x := ⟨_, rfl⟩
  obtain ⟨M, hM⟩ : ∃ x, apM t0 m0 (preE A0 n0) g A1 n1 = x := ⟨_, rfl⟩
  obtain ⟨E, hE⟩ : ∃ x, aplE t0 m0 (preE A0 n0) g A1 n1 = x := ⟨_, rfl⟩
  obtain ⟨L, hL⟩ : ∃ x, aplL t0 m0 (preE A0 n0) g A1 n1 = x := ⟨_, rfl⟩
  rw [hT, hM, hE, hL] at AP DA
  clear hT hM hE hL
  have hEE : (E == E) = true := by simp
  obtain ⟨o0, k0, rfl, hc0, hm0, _⟩ := r0
  obtain ⟨o1, k1, rfl, hc1, hm1, _⟩ := hv
  obtain ⟨g0, g1, g2⟩ := g
  clear ok s0 s0' e0 hA
  go_enter Tryz.func4, Tryz.ntmps4
  go_upto_region 1 with fail
  generalize hW : (w.alloc (.cells #[.int .i64 t0, .int .i64 m0, .slice o0 n0 k0] 24)).alloc (.cells #[.int .i64 g0, .int .i64 g1, .int .i64 g2, .slice o1 n1 k1] 29) = W0
  obtain ⟨a_0, c_0, bb⟩ := boxed2 hW
  obtain ⟨H, hH⟩ : ∃ H, w.heap.size = H := ⟨_, rfl⟩
  have HH : Hid (w.heap.size = H) := hH
  rw [hH] at a_0 c_0 bb
  rw [hH]
  have Q_0 := bb
  clear hW hH bb
  have ca0 := a_0.cell 0 _ rfl
  have ca1 := a_0.cell 1 _ rfl
  have ca2 := a_0.cell 2 _ rfl
  have la := a_0.lt
  go_wp2_with fail
  generalize hW : W0.alloc (.cells #[.int .i64 t0, .int .i64 m0, .slice o0 n0 k0] 24) = W1
  obtain ⟨s_1, bb, -⟩ := boxed hW
  obtain ⟨bs, hb⟩ : ∃ x, W0.heap.size = x := ⟨_, rfl⟩
  rw [hb] at s_1 ⊢
  clear hW
  have a_1 := a_0.below bb a_0.lt
  have c_1 := c_0.below bb c_0.lt
  have Q_1 := bup Q_0 (Nat.le_of_eq HH.out.symm) bb
  clear ca0 ca1 ca2 la
  clear a_0 c_0 Q_0 bb hb
  obtain ⟨q, hq⟩ : ∃ q : Bool, q = true ↔ ∃ k, k < 1 ∧ 100 < (fun _ : Nat => n0) k := by
    by_cases h : ∃ k, k < 1 ∧ 100 < (fun _ : Nat => n0) k
    · exact ⟨true, fun _ => h, fun _ => rfl⟩
    · exact ⟨false, fun h' => (by cases h'), fun h' => absurd h' h⟩
  have HGR : Hid (Calls Tryz.prog 5 #[.slice (some ⟨bs, 0, none⟩) 1 1] W1 fun e w' => e = .returned (.bool q) ∧ Below W1.heap.size W1 w') := dl_great W1 bs 1 1 (by omega) (by omega) (fun _ => t0) (fun _ => m0) (fun _ => o0) (fun _ => n0) (fun _ => k0) q hq (fun k hk => by
    match k, hk with
    | 0, _ => exact ⟨s_1.cell 0 _ rfl, s_1.cell 1 _ rfl, s_1.cell 2 _ rfl⟩)
  clear hq
  refine (HGR.out).mono ?_; rintro e w2 ⟨rfl, bb⟩
  have a_2 := a_1.below bb a_1.lt
  have c_2 := c_1.below bb c_1.lt
  have Q_2 := bup Q_1 (Nat.le_of_eq HH.out.symm) bb
  clear s_1 a_1 c_1 Q_1 bb HGR
  have cc3 := c_2.cell 3 _ rfl
  have lc := c_2.lt
  cases q
  · by_cases hl : 200 < n1
    · have hli : (200 : Int) < (n1 : Int) := by omega
      go_wp2_with fail
      refine (dl_alive _).mono ?_; rintro e w3 ⟨rfl, bb⟩
      go_wp2_with fail
      go_ret
      exact ⟨rfl, by rw [HH.out]; exact bup Q_2 (Nat.le_of_eq HH.out.symm) bb⟩
    · have hli : ¬ (200 : Int) < (n1 : Int) := by omega
      have ca0 := a_2.cell 0 _ rfl
      have ca1 := a_2.cell 1 _ rfl
      have ca2 := a_2.cell 2 _ rfl
      have la := a_2.lt
      have cc0 := c_2.cell 0 _ rfl
      have cc1 := c_2.cell 1 _ rfl
      have cc2 := c_2.cell 2 _ rfl
      go_wp2_with fail
      refine (AP.out _ (by rw [HH.out]; exact Q_2)).mono ?_; rintro e w3 ⟨us, rfl, os, b3⟩
      have a_3 := a_2.below b3 a_2.lt
      have c_3 := c_2.below b3 c_2.lt
      have Q_3 := bup Q_2 (Nat.le_of_eq HH.out.symm) b3
      have OS3 : Hid (OwnE w3 (H + 1) us L) := OwnE.mono os (by have := c_2.lt; omega)
      clear a_2 c_2 Q_2 os b3 ca0 ca1 ca2 la cc0 cc1 cc2 cc3 lc AP
      obtain ⟨sa, sc, es⟩ := OS3.out.form
      obtain ⟨ln, hln⟩ : ∃ x, L.length = x := ⟨_, rfl⟩
      have HLN : Hid (L.length = ln) := hln
      rw [hln] at es
      subst es
      clear hln
      go_upto_region 4 with fail
      generalize hV : w3.alloc (.cells #[.int .i64 T, .int .i64 M, .slice sa ln sc] 24) = W4
      obtain ⟨S4, bb, -⟩ := boxed hV
      obtain ⟨S, hS⟩ : ∃ x, w3.heap.size = x := ⟨_, rfl⟩
      rw [hS] at S4 ⊢
      have a_4 := a_3.below bb a_3.lt
      have c_4 := c_3.below bb c_3.lt
      have Q_4 := bup Q_3 (Nat.le_of_eq HH.out.symm) bb
      have OS4 : Hid (OwnE W4 (H + 1) (.slice sa ln sc) L) := OS3.out.below bb
      clear hV hS bb a_3 c_3 Q_3 OS3
      have ca0 := a_4.cell 0 _ rfl
      have ca1 := a_4.cell 1 _ rfl
      have ca2 := a_4.cell 2 _ rfl
      have la := a_4.lt
      have cc0 := c_4.cell 0 _ rfl
      have cc1 := c_4.cell 1 _ rfl
      have cc2 := c_4.cell 2 _ rfl
      have cc3 := c_4.cell 3 _ rfl
      have lc := c_4.lt
      go_wp2_with fail
      refine (DA.out _ (by rw [HH.out]; exact Q_4)).mono ?_; rintro e w5 ⟨ud, rfl, od, b5⟩
      have S5 := S4.below b5 S4.lt
      have Q_5 := bup Q_4 (Nat.le_of_eq HH.out.symm) b5
      have OS5 : Hid (OwnE w5 (H + 1) (.slice sa ln sc) L) := OS4.out.below b5
      have OD5 : Hid (OwnE w5 (H + 1) ud L) := OwnE.mono od (by have := c_4.lt; omega)
      clear a_4 c_4 Q_4 S4 OS4 od b5 ca0 ca1 ca2 la cc0 cc1 cc2 cc3 lc DA
      obtain ⟨da, dc, ed⟩ := OD5.out.form
      rw [HLN.out] at ed
      subst ed
      go_upto_region 5 with fail
      generalize hV : w5.alloc (.cells #[.int .i64 T, .int .i64 M, .slice da ln dc] 24) = W6
      obtain ⟨D6, bb, -⟩ := boxed hV
      obtain ⟨D, hD⟩ : ∃ x, w5.heap.size = x := ⟨_, rfl⟩
      rw [hD] at D6 ⊢
      have S6 := S5.below bb S5.lt
      have Q_6 := bup Q_5 (Nat.le_of_eq HH.out.symm) bb
      have OS6 : Hid (OwnE W6 (H + 1) (.slice sa ln sc) L) := OS5.out.below bb
      have OD6 : Hid (OwnE W6 (H + 1) (.slice da ln dc) L) := OD5.out.below bb
      clear hV hD bb S5 Q_5 OS5 OD5
      have x0 := S6.cell 0 _ rfl
      have x1 := S6.cell 1 _ rfl
      have x2 := S6.cell 2 _ rfl
      have lx := S6.lt
      have y0 := D6.cell 0 _ rfl
      have y1 := D6.cell 1 _ rfl
      have y2 := D6.cell 2 _ rfl
      have ly := D6.lt
      go_wp2_with fail
      refine (dl_alive W6).mono ?_; rintro e w7 ⟨rfl, b7⟩
      have S7 := S6.below b7 S6.lt
      have D7 := D6.below b7 D6.lt
      have Q_7 := bup Q_6 (Nat.le_of_eq HH.out.symm) b7
      have OS7 : Hid (RdE w7 (.slice sa ln sc) ln (atE L)) := by have h := (OS6.out.below b7).atE; rw [HLN.out] at h; exact h
      have OD7 : Hid (RdE w7 (.slice da ln dc) ln (atE L)) := by have h := (OD6.out.below b7).atE; rw [HLN.out] at h; exact h
      clear x0 x1 x2 lx y0 y1 y2 ly S6 D6 Q_6 OS6 OD6 b7
      have x0 := S7.cell 0 _ rfl
      have x1 := S7.cell 1 _ rfl
      have x2 := S7.cell 2 _ rfl
      have lx := S7.lt
      have y0 := D7.cell 0 _ rfl
      have y1 := D7.cell 1 _ rfl
      have y2 := D7.cell 2 _ rfl
      have ly := D7.lt
      go_wp2_with fail
      refine (sn_same w7 T M _ _ ln (atE L) OS7.out OD7.out).mono ?_; rintro e w8 ⟨rfl, b8⟩
      go_wp2_with fail
      go_ret
      exact ⟨rfl, by rw [HH.out]; exact bup Q_7 (Nat.le_of_eq HH.out.symm) b8⟩
  · go_wp2_with fail
    refine (dl_alive _).mono ?_; rintro e w3 ⟨rfl, bb⟩
    go_wp2_with fail
    go_ret
    exact ⟨rfl, by rw [HH.out]; exact bup Q_2 (Nat.le_of_eq HH.out.symm) bb⟩

set_option maxRecDepth 100000 in
theorem lifted (os : Os) (started : os.Started) (H : Type) (enc : TypeId × Value → H) :
    ReturnsInHanded {} Tryz.checked os 4 .any (Rows.deltaAppliesSpec.pre6 enc Tryz.prog Tryz.f4 Rows.deltaAppliesRow.domain false) (Rows.deltaAppliesSpec.post enc Tryz.prog Tryz.f4 false true false false) := by
  refine returnsInHanded_of_change (C := Tryz.checked) own started (by kernel_rfl) Tryz.func4
    (ChangeSpec.witness6 (enc := enc) (C := Tryz.checked) false ⟨#[], #[.agg #[.int .i64 0, .int .i64 0, .slice none 0 0], .agg #[.int .i64 0, .int .i64 0, .int .i64 0, .slice none 0 0]], []⟩ 8 (by kernel_rfl) (by kernel_rfl) (by kernel_rfl) (by kernel_rfl)) ?_
  intro W base args ds gs before hval0 hW hcnd _
  have hval : ∀ (j : Nat) t v, Tryz.f4.params[j]? = some t → args[j]? = some v → Value.okWide Tryz.prog W .any base t v := hval0
  have hW' := hW
  obtain ⟨p, q, hA0, hV, rfl, hfz, hnd⟩ := hW
  have hA : DataW.TrodAll enc Tryz.prog W 0 (fun _ => true) true Tryz.f4.params.toList args.toList ds p := hA0
  rw [Tryz.params4] at hA hval
  obtain ⟨v0, vs0, d0, ds0, p0, q0, hargs, rfl, rfl, h0, r0⟩ := trodAll_cons hA
  obtain ⟨v1, vs1, d1, ds1, p1, q1, rfl, rfl, rfl, h1, r1⟩ := trodAll_cons r0
  obtain ⟨rfl, rfl, rfl⟩ := trodAll_nil r1
  obtain rfl : args = #[v0, v1] := by cases args; simp_all
  obtain ⟨rfl, rfl⟩ := trodVars_none hV
  have hlt := hW'.lt
  have k0 := h0
  obtain ⟨t0, m0, u0, n0, A0, e0, st0, sm0, b0, rd0⟩ := open_snap (hval 0 24 v0 rfl rfl) h0
  subst e0
  have k1 := h1
  obtain ⟨g1, u1, n1, A1, e1, ok1, b1, rd1⟩ := open_gram (hval 1 29 v1 rfl rfl) h1
  subst e1
  clear hA0 hval0
  refine (walk W t0 m0 u0 n0 A0 st0 sm0 b0 rd0 g1 ok1 u1 n1 A1 b1 rd1).mono fun e W' ⟨he, hg⟩ => ?_
  subst he
  exact ⟨_, rfl, post_of_below hW' (fun _ _ _ => (trodAll_cons_mk (shut_bool Tryz.underlying4 _) trodAll_mk0)) (trodAll_cons_mk (Below.trod laidOut (by kernel_rfl) (of_decide_eq_true (by kernel_rfl)) k0 hg (fun x hx => by first | exact absurd hx (by simp) | exact hlt x (by simp [hx]))) (trodAll_cons_mk (Below.trod laidOut (by kernel_rfl) (of_decide_eq_true (by kernel_rfl)) k1 hg (fun x hx => by first | exact absurd hx (by simp) | exact hlt x (by simp [hx]))) trodAll_mk0)) rfl hg⟩

theorem over : Rows.deltaAppliesRow.holds Tryz.pinned (OpenSpec.ofChange Rows.deltaAppliesSpec) :=
  OpenClaim.holds_of_wide 4 Tryz.f4 rfl rfl rfl rfl rfl rfl rfl ⟨rfl, rfl, rfl, rfl, rfl⟩ rfl rfl rfl rfl rfl (by kernel_rfl) Tryz.func4 (by kernel_rfl)
    (of_decide_eq_true (by kernel_rfl)) (by unfold Func.isWrapper; first | (rw [if_pos (by decide +kernel)]; kernel_rfl) | (rw [if_neg (by decide +kernel)]; exact ⟨rfl, rfl⟩))
    (fun os started H enc _ => lifted os started H enc)
end DeltaAppliesL

theorem deltaApplies_proved : Rows.DeltaAppliesSaid := DeltaAppliesL.over
#print axioms deltaApplies_proved
end Go.Proofs.YtpamjalgcloehaaGreat
