/-
  Proved: the records that tell one snapshot by another one have rising Ids, and are Removes, Puts, and others just of entities that one, the other one, or both have (the law DeltaRecords answers true at every input).
  Conditions: none.
-/
import Derived.Test.YtfoblmambbfphaaGreatRows
import Derived.Test.YtfoblmambbfphaaGreatP28
namespace Go.Proofs.YtfoblmambbfphaaGreat
open Go.ChangeShapes Go.WideShapes Go.ChangeAt Go.RowKit
set_option linter.unusedVariables false

namespace DeltaRecordsL
theorem own : ownKnob Tryz.prog.godebug = none := by kernel_rfl

attribute [local go_sem ↓] eqE_run
set_option maxRecDepth 20000 in
set_option maxHeartbeats 8000000 in
theorem walk (w : World) (t0 m0 : Int) (u0 : Value) (n0 : Nat) (A0 : Nat → En) (s0 : S64 t0) (s0' : S64 m0) (e0 : ∀ i, i < n0 → (A0 i).ok) (r0 : RdE w u0 n0 A0)
    (t1 m1 : Int) (u1 : Value) (n1 : Nat) (A1 : Nat → En) (s1 : S64 t1) (s1' : S64 m1) (e1 : ∀ i, i < n1 → (A1 i).ok) (r1 : RdE w u1 n1 A1) :
    Calls Tryz.prog 8 #[snV t0 m0 u0, snV t1 m1 u1] w fun e w' => e = .returned (.bool true) ∧ Below w.heap.size w w' := by
  have E0 : Hid (∀ i, i < n0 → (A0 i).ok) := e0
  have R0 : Hid (RdE w u0 n0 A0) := r0
  obtain ⟨o0, k0, q0, hc0, hm0, _⟩ := r0
  subst q0
  have E1 : Hid (∀ i, i < n1 → (A1 i).ok) := e1
  have R1 : Hid (RdE w u1 n1 A1) := r1
  obtain ⟨o1, k1, q1, hc1, hm1, _⟩ := r1
  subst q1
  have hmm := @run_makeMap Tryz.prog
  have D01 : Hid (∀ w', RdE w' (.slice o0 n0 k0) n0 A0 → RdE w' (.slice o1 n1 k1) n1 A1 → Calls Tryz.prog 11 #[snV t0 m0 (.slice o0 n0 k0), snV t1 m1 (.slice o1 n1 k1)] w' fun e w'' => ∃ u, e = .returned (.tuple #[gmV (dlG t0 m0 (preE A0 n0) t1 m1 (preE A1 n1)) u, .int .i64 (dlE t0 m0 (preE A0 n0) t1 m1 (preE A1 n1))]) ∧ OwnR w'' w'.heap.size u (dlL t0 m0 (preE A0 n0) t1 m1 (preE A1 n1)) ∧ Below w'.heap.size w' w'') := fun w' h h' => dl_diff w' t0 m0 _ n0 A0 E0.out h t1 m1 _ n1 A1 h'
  have G01 : Hid (dlE t0 m0 (preE A0 n0) t1 m1 (preE A1 n1) = 0 → dlG t0 m0 (preE A0 n0) t1 m1 (preE A1 n1) = ⟨t1, m1, t0⟩) := dl_head
  have NO : Hid (dlE t0 m0 (preE A0 n0) t1 m1 (preE A1 n1) ≠ 0 → (dlL t0 m0 (preE A0 n0) t1 m1 (preE A1 n1)) = []) := fun h => (dl_no h).2
  have CK : Hid (dlE t0 m0 (preE A0 n0) t1 m1 (preE A1 n1) = 0 → ∀ w' gv, RdR w' gv (dlL t0 m0 (preE A0 n0) t1 m1 (preE A1 n1)).length (atR (dlL t0 m0 (preE A0 n0) t1 m1 (preE A1 n1))) → Calls Tryz.prog 25 #[gmV ⟨t1, m1, t0⟩ gv] w' fun e w'' => e = .returned (.int .i64 0) ∧ Below w'.heap.size w' w'') := fun h w' gv hg => by
    obtain ⟨h1, h2, h3, h4, h5, h6⟩ := dl_told h (pre_ent E0.out) (pre_ent E1.out)
    have c := gm_checks w' ⟨t1, m1, t0⟩ ⟨s1, s1', s0⟩ gv _ _ (atR_ok h6.ok) hg
    rw [told_gm h1 h2 h3 h6] at c
    exact c
  have RS : Hid (dlE t0 m0 (preE A0 n0) t1 m1 (preE A1 n1) = 0 → (∀ k, k < (dlL t0 m0 (preE A0 n0) t1 m1 (preE A1 n1)).length → 0 ≤ (atR (dlL t0 m0 (preE A0 n0) t1 m1 (preE A1 n1)) k).i ∧ (atR (dlL t0 m0 (preE A0 n0) t1 m1 (preE A1 n1)) k).i ≤ 65535 ∧
      isO (findE (atR (dlL t0 m0 (preE A0 n0) t1 m1 (preE A1 n1)) k).i (preE A0 n0)) = decide ((atR (dlL t0 m0 (preE A0 n0) t1 m1 (preE A1 n1)) k).k ≠ 0) ∧ isO (findE (atR (dlL t0 m0 (preE A0 n0) t1 m1 (preE A1 n1)) k).i (preE A1 n1)) = decide ((atR (dlL t0 m0 (preE A0 n0) t1 m1 (preE A1 n1)) k).k ≠ 2) ∧
      (isO (findE (atR (dlL t0 m0 (preE A0 n0) t1 m1 (preE A1 n1)) k).i (preE A0 n0)) = true → isO (findE (atR (dlL t0 m0 (preE A0 n0) t1 m1 (preE A1 n1)) k).i (preE A1 n1)) = true → entB (getE (findE (atR (dlL t0 m0 (preE A0 n0) t1 m1 (preE A1 n1)) k).i (preE A0 n0))) (getE (findE (atR (dlL t0 m0 (preE A0 n0) t1 m1 (preE A1 n1)) k).i (preE A1 n1))) = false)) ∧
    (∀ j, j + 1 < (dlL t0 m0 (preE A0 n0) t1 m1 (preE A1 n1)).length → (atR (dlL t0 m0 (preE A0 n0) t1 m1 (preE A1 n1)) j).i < (atR (dlL t0 m0 (preE A0 n0) t1 m1 (preE A1 n1)) (j + 1)).i) ∧
    (∀ x ∈ (preE A1 n1), x.i ∈ idsTo (dlL t0 m0 (preE A0 n0) t1 m1 (preE A1 n1)) (dlL t0 m0 (preE A0 n0) t1 m1 (preE A1 n1)).length ∨ findE x.i (preE A0 n0) = some x) ∧ (dlL t0 m0 (preE A0 n0) t1 m1 (preE A1 n1)).length ≤ 128) := fun h => rec_says h (pre_ent E0.out) (pre_ent E1.out)
  have FA : Hid (∀ d w', RdE w' (.slice o0 n0 k0) n0 A0 → Calls Tryz.prog 15 #[snV t0 m0 (.slice o0 n0 k0), .int .i64 d] w' fun e w'' => e = .returned (.tuple #[entV (getE (findE d (preE A0 n0))), .bool (isO (findE d (preE A0 n0)))]) ∧ Below w'.heap.size w' w'') := fun d w' h => sn_find w' t0 m0 d _ n0 A0 h
  have FB : Hid (∀ d w', RdE w' (.slice o1 n1 k1) n1 A1 → Calls Tryz.prog 15 #[snV t1 m1 (.slice o1 n1 k1), .int .i64 d] w' fun e w'' => e = .returned (.tuple #[entV (getE (findE d (preE A1 n1))), .bool (isO (findE d (preE A1 n1)))]) ∧ Below w'.heap.size w' w'') := fun d w' h => sn_find w' t1 m1 d _ n1 A1 h
  obtain ⟨g01, hg⟩ : ∃ x, dlG t0 m0 (preE A0 n0) t1 m1 (preE A1 n1) = x := ⟨_, rfl⟩
  obtain ⟨f01, hf⟩ : ∃ x, dlE t0 m0 (preE A0 n0) t1 m1 (preE A1 n1) = x := ⟨_, rfl⟩
  obtain ⟨L01, hl⟩ : ∃ x, (dlL t0 m0 (preE A0 n0) t1 m1 (preE A1 n1)) = x := ⟨_, rfl⟩
  rw [hg, hf, hl] at D01
  rw [hg, hf] at G01
  rw [hf, hl] at NO CK RS
  clear hg hf hl
  obtain ⟨l01, hl⟩ : ∃ x, L01.length = x := ⟨_, rfl⟩
  have HL01 : Hid (L01.length = l01) := hl
  rw [hl] at CK RS
  clear hl
  obtain ⟨g01a, g01b, g01c⟩ := g01
  clear e0 e1 s0 s0' s1 s1'
  go_enter Tryz.func8, Tryz.ntmps8
  go_upto_region 1 with fail
  generalize hW : (w.alloc (.cells #[.int .i64 t0, .int .i64 m0, .slice o0 n0 k0] 24)).alloc (.cells #[.int .i64 t1, .int .i64 m1, .slice o1 n1 k1] 24) = W0
  obtain ⟨a_0, b_0, bb⟩ := boxed2 hW
  obtain ⟨H, hH⟩ : ∃ H, w.heap.size = H := ⟨_, rfl⟩
  have HH : Hid (w.heap.size = H) := hH
  have R0_0 : Hid (RdE W0 (.slice o0 n0 k0) n0 A0) := R0.out.below bb
  have R1_0 : Hid (RdE W0 (.slice o1 n1 k1) n1 A1) := R1.out.below bb
  rw [hH] at a_0 b_0 bb
  rw [hH]
  have Q_0 := bb
  clear hW hH bb R0 R1
  have ca0 := a_0.cell 0 _ rfl
  have ca1 := a_0.cell 1 _ rfl
  have ca2 := a_0.cell 2 _ rfl
  have la := a_0.lt
  have cb0 := b_0.cell 0 _ rfl
  have cb1 := b_0.cell 1 _ rfl
  have cb2 := b_0.cell 2 _ rfl
  have lb := b_0.lt
  go_wp2_with fail
  generalize hW : W0.alloc (.cells #[.int .i64 t0, .int .i64 m0, .slice o0 n0 k0, .int .i64 t1, .int .i64 m1, .slice o1 n1 k1] 24) = W1
  obtain ⟨s_1, bb, -⟩ := boxed hW
  obtain ⟨bs, hb⟩ : ∃ x, W0.heap.size = x := ⟨_, rfl⟩
  rw [hb] at s_1  ⊢
  clear hW
  have a_1 := a_0.below bb a_0.lt
  have b_1 := b_0.below bb b_0.lt
  have R0_1 : Hid (RdE W1 (.slice o0 n0 k0) n0 A0) := R0_0.out.below bb
  have R1_1 : Hid (RdE W1 (.slice o1 n1 k1) n1 A1) := R1_0.out.below bb
  have Q_1 := bup Q_0 (Nat.le_of_eq HH.out.symm) bb
  clear ca0 ca1 ca2 la cb0 cb1 cb2 lb
  clear a_0 b_0 R0_0 R1_0 Q_0 bb hb
  obtain ⟨q, hq⟩ : ∃ q : Bool, q = true ↔ ∃ k, k < 2 ∧ 100 < (fun k : Nat => match k with | 0 => n0 | _ => n1) k := by
    by_cases h : ∃ k, k < 2 ∧ 100 < (fun k : Nat => match k with | 0 => n0 | _ => n1) k
    · exact ⟨true, fun _ => h, fun _ => rfl⟩
    · exact ⟨false, fun h' => (by cases h'), fun h' => absurd h' h⟩
  have HGR : Hid (Calls Tryz.prog 9 #[.slice (some ⟨bs, 0, none⟩) 2 2] W1 fun e w' => e = .returned (.bool q) ∧ Below W1.heap.size W1 w') := dl_great W1 bs 2 2 (by omega) (by omega) (fun k : Nat => match k with | 0 => t0 | _ => t1) (fun k : Nat => match k with | 0 => m0 | _ => m1) (fun k : Nat => match k with | 0 => o0 | _ => o1) (fun k : Nat => match k with | 0 => n0 | _ => n1) (fun k : Nat => match k with | 0 => k0 | _ => k1) q hq (fun k hk => by
    match k, hk with
    | 0, _ => exact ⟨s_1.cell 0 _ rfl, s_1.cell 1 _ rfl, s_1.cell 2 _ rfl⟩
    | 1, _ => exact ⟨s_1.cell 3 _ rfl, s_1.cell 4 _ rfl, s_1.cell 5 _ rfl⟩)
  clear hq
  refine (HGR.out).mono ?_; rintro e w2 ⟨rfl, bb⟩
  clear s_1
  have a_2 := a_1.below bb a_1.lt
  have b_2 := b_1.below bb b_1.lt
  have R0_2 : Hid (RdE w2 (.slice o0 n0 k0) n0 A0) := R0_1.out.below bb
  have R1_2 : Hid (RdE w2 (.slice o1 n1 k1) n1 A1) := R1_1.out.below bb
  have Q_2 := bup Q_1 (Nat.le_of_eq HH.out.symm) bb
  clear a_1 b_1 R0_1 R1_1 Q_1 bb
  clear HGR
  cases q
  · -- none is more than is looked at
    have ca0 := a_2.cell 0 _ rfl
    have ca1 := a_2.cell 1 _ rfl
    have ca2 := a_2.cell 2 _ rfl
    have la := a_2.lt
    have cb0 := b_2.cell 0 _ rfl
    have cb1 := b_2.cell 1 _ rfl
    have cb2 := b_2.cell 2 _ rfl
    have lb := b_2.lt
    go_wp2_with fail
    refine (D01.out _ R0_2.out R1_2.out).mono ?_; rintro e w3 ⟨v01, rfl, own, bb⟩
    have N01 : Hid (RdR w3 v01 l01 (atR L01)) := by have c := own.atR; rw [HL01.out] at c; exact c
    obtain ⟨p01, y01, ev⟩ := own.form
    rw [HL01.out] at ev
    clear own
    subst ev
    have a_3 := a_2.below bb a_2.lt
    have b_3 := b_2.below bb b_2.lt
    have R0_3 : Hid (RdE w3 (.slice o0 n0 k0) n0 A0) := R0_2.out.below bb
    have R1_3 : Hid (RdE w3 (.slice o1 n1 k1) n1 A1) := R1_2.out.below bb
    have Q_3 := bup Q_2 (Nat.le_of_eq HH.out.symm) bb
    clear ca0 ca1 ca2 la cb0 cb1 cb2 lb
    clear a_2 b_2 R0_2 R1_2 Q_2 bb
    have N01_3 := N01
    clear N01 D01
    go_upto_region 4 with fail
    generalize hW : w3.alloc (.cells #[.int .i64 g01a, .int .i64 g01b, .int .i64 g01c, .slice p01 l01 y01] 29) = W4
    obtain ⟨g_4, bb, -⟩ := boxed hW
    obtain ⟨bg, hb⟩ : ∃ x, w3.heap.size = x := ⟨_, rfl⟩
    rw [hb] at g_4  ⊢
    clear hW
    have a_4 := a_3.below bb a_3.lt
    have b_4 := b_3.below bb b_3.lt
    have R0_4 : Hid (RdE W4 (.slice o0 n0 k0) n0 A0) := R0_3.out.below bb
    have R1_4 : Hid (RdE W4 (.slice o1 n1 k1) n1 A1) := R1_3.out.below bb
    have N01_4 : Hid (RdR W4 (.slice p01 l01 y01) l01 (atR L01)) := N01_3.out.below bb
    have Q_4 := bup Q_3 (Nat.le_of_eq HH.out.symm) bb
    clear a_3 b_3 R0_3 R1_3 N01_3 Q_3 bb hb
    by_cases hz01 : f01 = 0
    case neg =>
      have hq : (f01 == 0) = false := by simp [hz01]
      have hl0 := NO.out hz01
      have hl1 := HL01.out
      rw [hl0] at hl1
      clear NO CK RS FA FB G01 HL01 N01_4 hl0 hmm
      replace hl1 := hl1.symm
      simp only [List.length_nil] at hl1
      subst hl1
      go_wp2_with fail
      refine (dl_alive _).mono ?_; rintro e w5 ⟨rfl, bb⟩
      have a_5 := a_4.below bb a_4.lt
      have b_5 := b_4.below bb b_4.lt
      have g_5 := g_4.below bb g_4.lt
      have R0_5 : Hid (RdE w5 (.slice o0 n0 k0) n0 A0) := R0_4.out.below bb
      have R1_5 : Hid (RdE w5 (.slice o1 n1 k1) n1 A1) := R1_4.out.below bb
      have Q_5 := bup Q_4 (Nat.le_of_eq HH.out.symm) bb
      clear a_4 b_4 g_4 R0_4 R1_4 Q_4 bb
      have cg0 := g_5.cell 0 _ rfl
      have cg1 := g_5.cell 1 _ rfl
      have cg2 := g_5.cell 2 _ rfl
      have cg3 := g_5.cell 3 _ rfl
      have lg := g_5.lt
      go_wp2_with fail
      go_ret
      exact ⟨rfl, by rw [HH.out]; exact Q_5⟩
    have hg01 := G01.out hz01
    injection hg01 with ha01 hb01 hc01
    have Y01 := CK.out hz01
    obtain ⟨Y02, Y03, Y04, hl128⟩ := RS.out hz01
    clear G01 CK RS NO
    replace ha01 := ha01.symm; replace hb01 := hb01.symm; replace hc01 := hc01.symm
    subst ha01 hb01 hc01 hz01
    have X01 : Hid (_) := Y01
    clear Y01
    have X02 : Hid (_) := Y02
    clear Y02
    have X03 : Hid (_) := Y03
    clear Y03
    have X04 : Hid (_) := Y04
    clear Y04
    have ca0 := a_4.cell 0 _ rfl
    have ca1 := a_4.cell 1 _ rfl
    have ca2 := a_4.cell 2 _ rfl
    have la := a_4.lt
    have cb0 := b_4.cell 0 _ rfl
    have cb1 := b_4.cell 1 _ rfl
    have cb2 := b_4.cell 2 _ rfl
    have lb := b_4.lt
    have cg0 := g_4.cell 0 _ rfl
    have cg1 := g_4.cell 1 _ rfl
    have cg2 := g_4.cell 2 _ rfl
    have cg3 := g_4.cell 3 _ rfl
    have lg := g_4.lt
    go_wp2_with fail
    refine (X01.out _ _ N01_4.out).mono ?_; rintro e w5 ⟨rfl, bb⟩
    have a_5 := a_4.below bb a_4.lt
    have b_5 := b_4.below bb b_4.lt
    have g_5 := g_4.below bb g_4.lt
    have R0_5 : Hid (RdE w5 (.slice o0 n0 k0) n0 A0) := R0_4.out.below bb
    have R1_5 : Hid (RdE w5 (.slice o1 n1 k1) n1 A1) := R1_4.out.below bb
    have N01_5 : Hid (RdR w5 (.slice p01 l01 y01) l01 (atR L01)) := N01_4.out.below bb
    have Q_5 := bup Q_4 (Nat.le_of_eq HH.out.symm) bb
    clear ca0 ca1 ca2 la cb0 cb1 cb2 lb cg0 cg1 cg2 cg3 lg
    clear a_4 b_4 g_4 R0_4 R1_4 N01_4 Q_4 bb
    clear X01
    have hgl := g_5.lt
    have hal := a_5.lt
    have hbl := b_5.lt
    go_upto_region 9 with fail
    have m0_ := MapB.made w5
    have q0_ : Below w5.heap.size w5 (w5.alloc (.map #[] 0)) := (Below.refl _ _).alloc (Nat.le_refl _) _
    generalize w5.alloc (.map #[] 0) = WM at m0_ q0_ ⊢
    obtain ⟨bm, hbm⟩ : ∃ x, w5.heap.size = x := ⟨_, rfl⟩
    have HM : Hid (_) := hbm
    rw [hbm] at m0_ q0_ hgl hal hbl ⊢
    clear hbm hmm
    have gm_ := g_5.below q0_ hgl
    have cg3 := gm_.cell 3 _ rfl
    have lg := gm_.lt
    go_upto_region 10 with fail
    clear gm_ cg3 lg
    go_loopw [66] (fun i wr => ∃ k : Nat, k ≤ l01 ∧ i = .int .i64 k ∧ MapB wr bm (idsTo L01 k) ∧ Below bm w5 wr) (fun i _ => l01 - (intOf i).toNat)
    case atStart => exact ⟨0, by omega, rfl, m0_, q0_⟩
    case round =>
      obtain ⟨k, hk, rfl, qm, q5⟩ := hrel
      clear m0_ q0_
      by_cases hlt : k < l01
      · have X2 := X02.out k hlt
        obtain ⟨b, o, hp, hbw, hcell⟩ := rdR_at N01_5.out hlt
        subst hp
        have hbm' : b < bm := by rw [← HM.out]; exact hbw
        obtain ⟨⟨rk, ri, p0, p1, p2, v0, v1, v2, ra⟩, hr⟩ : ∃ r, atR L01 k = r := ⟨_, rfl⟩
        have HK : Hid ((atR L01 k).i = ri) := by rw [hr]; exact rfl
        rw [hr] at X2 hcell
        have c0 : wr.cell? ⟨b, o + k * 9, none⟩ = some (.int .i64 rk) := (q5.cell (p := ⟨b, o + k * 9, none⟩) hbm').trans (hcell 0 _ rfl)
        have c1 : wr.cell? ⟨b, o + k * 9 + 1, none⟩ = some (.int .i64 ri) := (q5.cell (p := ⟨b, o + k * 9 + 1, none⟩) hbm').trans (hcell 1 _ rfl)
        have c2 : wr.cell? ⟨b, o + k * 9 + 2, none⟩ = some (.int .i64 p0) := (q5.cell (p := ⟨b, o + k * 9 + 2, none⟩) hbm').trans (hcell 2 _ rfl)
        have c3 : wr.cell? ⟨b, o + k * 9 + 3, none⟩ = some (.int .i64 p1) := (q5.cell (p := ⟨b, o + k * 9 + 3, none⟩) hbm').trans (hcell 3 _ rfl)
        have c4 : wr.cell? ⟨b, o + k * 9 + 4, none⟩ = some (.int .i64 p2) := (q5.cell (p := ⟨b, o + k * 9 + 4, none⟩) hbm').trans (hcell 4 _ rfl)
        have c5 : wr.cell? ⟨b, o + k * 9 + 5, none⟩ = some (.int .i64 v0) := (q5.cell (p := ⟨b, o + k * 9 + 5, none⟩) hbm').trans (hcell 5 _ rfl)
        have c6 : wr.cell? ⟨b, o + k * 9 + 6, none⟩ = some (.int .i64 v1) := (q5.cell (p := ⟨b, o + k * 9 + 6, none⟩) hbm').trans (hcell 6 _ rfl)
        have c7 : wr.cell? ⟨b, o + k * 9 + 7, none⟩ = some (.int .i64 v2) := (q5.cell (p := ⟨b, o + k * 9 + 7, none⟩) hbm').trans (hcell 7 _ rfl)
        have c8 : wr.cell? ⟨b, o + k * 9 + 8, none⟩ = some (.int .u16 ra) := (q5.cell (p := ⟨b, o + k * 9 + 8, none⟩) hbm').trans (hcell 8 _ rfl)
        have lr : b < wr.heap.size := World.block_lt_of_cell? wr _ c0
        clear hr
        obtain ⟨i0, i1, fa, fb, fn⟩ := X2
        simp only at i0 i1 fa fb fn
        clear hcell
        obtain ⟨oa, hoa⟩ : ∃ x, isO (findE ri (preE A0 n0)) = x := ⟨_, rfl⟩
        obtain ⟨ob, hob⟩ : ∃ x, isO (findE ri (preE A1 n1)) = x := ⟨_, rfl⟩
        obtain ⟨ea, hea⟩ : ∃ x, getE (findE ri (preE A0 n0)) = x := ⟨_, rfl⟩
        obtain ⟨eb, heb⟩ : ∃ x, getE (findE ri (preE A1 n1)) = x := ⟨_, rfl⟩
        have FA1 : Hid (_) := FA.out ri
        have FB1 : Hid (_) := FB.out ri
        rw [hoa, hea] at FA1
        rw [hob, heb] at FB1
        rw [hoa] at fa fn
        rw [hob] at fb fn
        rw [hea, heb] at fn
        clear hoa hob hea heb
        obtain ⟨x0, x1, x2, x3, x4, x5, x6, x7, x8⟩ := ea
        obtain ⟨y0, y1, y2, y3, y4, y5, y6, y7, y8⟩ := eb
        have FE : Hid (_) := fn
        clear fn
        go_upto_region 12 with fail
        generalize hW : wr.alloc (.cells #[.int .i64 rk, .int .i64 ri, .int .i64 p0, .int .i64 p1, .int .i64 p2, .int .i64 v0, .int .i64 v1, .int .i64 v2, .int .u16 ra] 59) = V1
        obtain ⟨r_1, bb, -⟩ := boxed hW
        obtain ⟨br, hbr⟩ : ∃ x, wr.heap.size = x := ⟨_, rfl⟩
        have qm1 := qm.below bb
        have q1 : Below bm w5 V1 := bup q5 (Nat.le_of_eq HM.out.symm) bb
        rw [hbr] at r_1 ⊢
        clear hW bb hbr qm c0 c1 c2 c3 c4 c5 c6 c7 c8 lr
        have aT := a_5.below q1 hal
        have ca0 := aT.cell 0 _ rfl
        have ca1 := aT.cell 1 _ rfl
        have ca2 := aT.cell 2 _ rfl
        have la := aT.lt
        have cr0 := r_1.cell 0 _ rfl
        have cr1 := r_1.cell 1 _ rfl
        have cr2 := r_1.cell 2 _ rfl
        have cr3 := r_1.cell 3 _ rfl
        have cr4 := r_1.cell 4 _ rfl
        have cr5 := r_1.cell 5 _ rfl
        have cr6 := r_1.cell 6 _ rfl
        have cr7 := r_1.cell 7 _ rfl
        have cr8 := r_1.cell 8 _ rfl
        have lr := r_1.lt
        go_wp2_with fail
        refine (FA1.out _ (R0_5.out.below (by rw [HM.out]; exact q1))).mono ?_; rintro e V2 ⟨rfl, bb⟩
        have r_2 := r_1.below bb r_1.lt
        have qm2 := qm1.below bb
        have q2 : Below bm w5 V2 := bup q1 (Nat.le_of_eq HM.out.symm) bb
        clear ca0 ca1 ca2 la aT cr0 cr1 cr2 cr3 cr4 cr5 cr6 cr7 cr8 lr r_1 qm1 q1 bb FA1
        go_upto_region 13 with fail
        generalize hW : V2.alloc (.cells #[.int .i64 x0, .int .i64 x1, .int .i64 x2, .int .i64 x3, .int .i64 x4, .int .i64 x5, .int .i64 x6, .int .u16 x7, .int .u8 x8] 40) = V3
        obtain ⟨x_3, bb, -⟩ := boxed hW
        obtain ⟨bx, hbx⟩ : ∃ x, V2.heap.size = x := ⟨_, rfl⟩
        have r_3 := r_2.below bb r_2.lt
        have qm3 := qm2.below bb
        have q3 : Below bm w5 V3 := bup q2 (Nat.le_of_eq HM.out.symm) bb
        rw [hbx] at x_3 ⊢
        clear hW bb hbx r_2 qm2 q2
        have bT := b_5.below q3 hbl
        have cb0 := bT.cell 0 _ rfl
        have cb1 := bT.cell 1 _ rfl
        have cb2 := bT.cell 2 _ rfl
        have lb := bT.lt
        have cr0 := r_3.cell 0 _ rfl
        have cr1 := r_3.cell 1 _ rfl
        have cr2 := r_3.cell 2 _ rfl
        have cr3 := r_3.cell 3 _ rfl
        have cr4 := r_3.cell 4 _ rfl
        have cr5 := r_3.cell 5 _ rfl
        have cr6 := r_3.cell 6 _ rfl
        have cr7 := r_3.cell 7 _ rfl
        have cr8 := r_3.cell 8 _ rfl
        have lr := r_3.lt
        go_wp2_with fail
        refine (FB1.out _ (R1_5.out.below (by rw [HM.out]; exact q3))).mono ?_; rintro e V4 ⟨rfl, bb⟩
        have r_4 := r_3.below bb r_3.lt
        have x_4 := x_3.below bb x_3.lt
        have qm4 := qm3.below bb
        have q4 : Below bm w5 V4 := bup q3 (Nat.le_of_eq HM.out.symm) bb
        clear cb0 cb1 cb2 lb bT cr0 cr1 cr2 cr3 cr4 cr5 cr6 cr7 cr8 lr r_3 x_3 qm3 q3 bb FB1
        go_upto_region 14 with fail
        generalize hW : V4.alloc (.cells #[.int .i64 y0, .int .i64 y1, .int .i64 y2, .int .i64 y3, .int .i64 y4, .int .i64 y5, .int .i64 y6, .int .u16 y7, .int .u8 y8] 40) = V5
        obtain ⟨y_5, bb, -⟩ := boxed hW
        obtain ⟨by_, hby⟩ : ∃ x, V4.heap.size = x := ⟨_, rfl⟩
        have r_5 := r_4.below bb r_4.lt
        have x_5 := x_4.below bb x_4.lt
        have qm5 : Hid (MapB V5 bm (idsTo L01 k)) := qm4.below bb
        have q6 : Below bm w5 V5 := bup q4 (Nat.le_of_eq HM.out.symm) bb
        rw [hby] at y_5 ⊢
        clear hW bb hby r_4 x_4 qm4 q4 q5
        have gT := g_5.below q6 hgl
        have cg0 := gT.cell 0 _ rfl
        have cg1 := gT.cell 1 _ rfl
        have cg2 := gT.cell 2 _ rfl
        have cg3 := gT.cell 3 _ rfl
        have lg := gT.lt
        have cr0 := r_5.cell 0 _ rfl
        have cr1 := r_5.cell 1 _ rfl
        have lr := r_5.lt
        have cx0 := x_5.cell 0 _ rfl
        have cx1 := x_5.cell 1 _ rfl
        have cx2 := x_5.cell 2 _ rfl
        have cx3 := x_5.cell 3 _ rfl
        have cx4 := x_5.cell 4 _ rfl
        have cx5 := x_5.cell 5 _ rfl
        have cx6 := x_5.cell 6 _ rfl
        have cx7 := x_5.cell 7 _ rfl
        have cx8 := x_5.cell 8 _ rfl
        have lx := x_5.lt
        have cy0 := y_5.cell 0 _ rfl
        have cy1 := y_5.cell 1 _ rfl
        have cy2 := y_5.cell 2 _ rfl
        have cy3 := y_5.cell 3 _ rfl
        have cy4 := y_5.cell 4 _ rfl
        have cy5 := y_5.cell 5 _ rfl
        have cy6 := y_5.cell 6 _ rfl
        have cy7 := y_5.cell 7 _ rfl
        have cy8 := y_5.cell 8 _ rfl
        have ly := y_5.lt
        clear gT r_5 x_5 y_5
        have hS : S64 ri := by unfold S64; omega
        have hKS : Hid (idsTo L01 (k + 1) = idsTo L01 k ++ [ri]) := by have c := idsTo_succ L01 k; rw [HK.out] at c; exact c
        by_cases hk0 : k = 0
        · have hd : decide (0 < k) = false := decide_eq_false (by omega)
          by_cases h0 : rk = 0
          · subst h0
            simp only [ne_eq, not_true_eq_false, decide_false] at fa
            replace fb : ob = true := by rw [fb]; simp
            subst fa fb
            clear FE
            have dx0 : V5.drew.cell? ⟨bx, 0, none⟩ = some (.int .i64 x0) := cx0
            have dx1 : V5.drew.cell? ⟨bx, 1, none⟩ = some (.int .i64 x1) := cx1
            have dx2 : V5.drew.cell? ⟨bx, 2, none⟩ = some (.int .i64 x2) := cx2
            have dx3 : V5.drew.cell? ⟨bx, 3, none⟩ = some (.int .i64 x3) := cx3
            have dx4 : V5.drew.cell? ⟨bx, 4, none⟩ = some (.int .i64 x4) := cx4
            have dx5 : V5.drew.cell? ⟨bx, 5, none⟩ = some (.int .i64 x5) := cx5
            have dx6 : V5.drew.cell? ⟨bx, 6, none⟩ = some (.int .i64 x6) := cx6
            have dx7 : V5.drew.cell? ⟨bx, 7, none⟩ = some (.int .u16 x7) := cx7
            have dx8 : V5.drew.cell? ⟨bx, 8, none⟩ = some (.int .u8 x8) := cx8
            have dy0 : V5.drew.cell? ⟨by_, 0, none⟩ = some (.int .i64 y0) := cy0
            have dy1 : V5.drew.cell? ⟨by_, 1, none⟩ = some (.int .i64 y1) := cy1
            have dy2 : V5.drew.cell? ⟨by_, 2, none⟩ = some (.int .i64 y2) := cy2
            have dy3 : V5.drew.cell? ⟨by_, 3, none⟩ = some (.int .i64 y3) := cy3
            have dy4 : V5.drew.cell? ⟨by_, 4, none⟩ = some (.int .i64 y4) := cy4
            have dy5 : V5.drew.cell? ⟨by_, 5, none⟩ = some (.int .i64 y5) := cy5
            have dy6 : V5.drew.cell? ⟨by_, 6, none⟩ = some (.int .i64 y6) := cy6
            have dy7 : V5.drew.cell? ⟨by_, 7, none⟩ = some (.int .u16 y7) := cy7
            have dy8 : V5.drew.cell? ⟨by_, 8, none⟩ = some (.int .u8 y8) := cy8
            have dr0 : V5.drew.cell? ⟨br, 0, none⟩ = some (.int .i64 0) := cr0
            have ld : V5.drew.heap.size = V5.heap.size := rfl
            refine wp_region_any (by kernel_rfl) ?_
            change wpAny _ _ _ _ _ _ _ (World.drew _)
            refine take_to (i := 0) (d := some 85) (v := .int .i64 (k : Int)) rfl rfl (by kernel_rfl) (by kernel_rfl) (by kernel_rfl) (fun _ _ _ h => h) (Or.inl ⟨by rfl, fun w => by go_simp⟩) ?_
            simp only [Act.put, List.setIfInBounds_toArray, List.set_cons_zero, List.set_cons_succ]
            refine take_to (i := 1) (d := some 86) (v := .bool false) rfl rfl (by kernel_rfl) (by kernel_rfl) (by kernel_rfl) (fun _ _ _ h => h) (Or.inl ⟨by rfl, fun w => by go_simp⟩) ?_
            simp only [Act.put, List.setIfInBounds_toArray, List.set_cons_zero, List.set_cons_succ]
            refine take_to (i := 2) (d := some 87) (v := .bool false) rfl rfl (by kernel_rfl) (by kernel_rfl) (by kernel_rfl) (fun _ _ _ h => h) (Or.inl ⟨by rfl, fun w => by go_simp⟩) ?_
            simp only [Act.put, List.setIfInBounds_toArray, List.set_cons_zero, List.set_cons_succ]
            refine take_to (i := 3) (d := some 88) (v := undef) rfl rfl (by kernel_rfl) (by kernel_rfl) (by kernel_rfl) (fun _ _ _ h => h) (Or.inr ⟨by rfl, rfl⟩) ?_
            simp only [Act.put, List.setIfInBounds_toArray, List.set_cons_zero, List.set_cons_succ]
            refine take_to (i := 4) (d := some 89) (v := undef) rfl rfl (by kernel_rfl) (by kernel_rfl) (by kernel_rfl) (fun _ _ _ h => h) (Or.inr ⟨by rfl, rfl⟩) ?_
            simp only [Act.put, List.setIfInBounds_toArray, List.set_cons_zero, List.set_cons_succ]
            refine take_to (i := 5) (d := some 90) (v := undef) rfl rfl (by kernel_rfl) (by kernel_rfl) (by kernel_rfl) (fun _ _ _ h => h) (Or.inr ⟨by rfl, rfl⟩) ?_
            simp only [Act.put, List.setIfInBounds_toArray, List.set_cons_zero, List.set_cons_succ]
            refine take_to (i := 6) (d := some 91) (v := undef) rfl rfl (by kernel_rfl) (by kernel_rfl) (by kernel_rfl) (fun _ _ _ h => h) (Or.inr ⟨by rfl, rfl⟩) ?_
            simp only [Act.put, List.setIfInBounds_toArray, List.set_cons_zero, List.set_cons_succ]
            refine take_to (i := 7) (d := some 92) (v := undef) rfl rfl (by kernel_rfl) (by kernel_rfl) (by kernel_rfl) (fun _ _ _ h => h) (Or.inr ⟨by rfl, rfl⟩) ?_
            simp only [Act.put, List.setIfInBounds_toArray, List.set_cons_zero, List.set_cons_succ]
            refine take_to (i := 8) (d := some 93) (v := undef) rfl rfl (by kernel_rfl) (by kernel_rfl) (by kernel_rfl) (fun _ _ _ h => h) (Or.inr ⟨by rfl, rfl⟩) ?_
            simp only [Act.put, List.setIfInBounds_toArray, List.set_cons_zero, List.set_cons_succ]
            refine take_to (i := 9) (d := some 94) (v := undef) rfl rfl (by kernel_rfl) (by kernel_rfl) (by kernel_rfl) (fun _ _ _ h => h) (Or.inr ⟨by rfl, rfl⟩) ?_
            simp only [Act.put, List.setIfInBounds_toArray, List.set_cons_zero, List.set_cons_succ]
            refine take_to (i := 10) (d := some 95) (v := undef) rfl rfl (by kernel_rfl) (by kernel_rfl) (by kernel_rfl) (fun _ _ _ h => h) (Or.inr ⟨by rfl, rfl⟩) ?_
            simp only [Act.put, List.setIfInBounds_toArray, List.set_cons_zero, List.set_cons_succ]
            refine take_to (i := 11) (d := some 96) (v := undef) rfl rfl (by kernel_rfl) (by kernel_rfl) (by kernel_rfl) (fun _ _ _ h => h) (Or.inr ⟨by rfl, rfl⟩) ?_
            simp only [Act.put, List.setIfInBounds_toArray, List.set_cons_zero, List.set_cons_succ]
            refine take_to (i := 12) (d := some 97) (v := undef) rfl rfl (by kernel_rfl) (by kernel_rfl) (by kernel_rfl) (fun _ _ _ h => h) (Or.inr ⟨by rfl, rfl⟩) ?_
            simp only [Act.put, List.setIfInBounds_toArray, List.set_cons_zero, List.set_cons_succ]
            refine take_to (i := 13) (d := some 98) (v := .bool false) rfl rfl (by kernel_rfl) (by kernel_rfl) (by kernel_rfl) (fun _ _ _ h => h) (Or.inl ⟨by rfl, fun w => by go_simp⟩) ?_
            simp only [Act.put, List.setIfInBounds_toArray, List.set_cons_zero, List.set_cons_succ]
            refine take_to (i := 14) (d := some 99) (v := .bool false) rfl rfl (by kernel_rfl) (by kernel_rfl) (by kernel_rfl) (fun _ _ _ h => h) (Or.inl ⟨by rfl, fun w => by go_simp⟩) ?_
            simp only [Act.put, List.setIfInBounds_toArray, List.set_cons_zero, List.set_cons_succ]
            refine take_to (i := 15) (d := some 100) (v := .bool false) rfl rfl (by kernel_rfl) (by kernel_rfl) (by kernel_rfl) (fun _ _ _ h => h) (Or.inl ⟨by rfl, fun w => by go_simp⟩) ?_
            simp only [Act.put, List.setIfInBounds_toArray, List.set_cons_zero, List.set_cons_succ]
            refine take_to (i := 16) (d := some 101) (v := .pointer (some ⟨br, 0, none⟩)) rfl rfl (by kernel_rfl) (by kernel_rfl) (by kernel_rfl) (fun _ _ _ h => h) (Or.inl ⟨by rfl, fun w => by go_simp⟩) ?_
            simp only [Act.put, List.setIfInBounds_toArray, List.set_cons_zero, List.set_cons_succ]
            refine wpAny_ready (rs := [17]) (by kernel_rfl) (by simp) ?_
            refine AllReady.cons rfl (fun K hK => ?_) AllReady.nil
            go_simp
            refine hK _ _ ?_; clear hK K
            refine take_to (i := 18) (d := some 103) (v := .bool false) rfl rfl (by kernel_rfl) (by kernel_rfl) (by kernel_rfl) (fun _ _ _ h => h) (Or.inl ⟨by rfl, fun w => by go_simp⟩) ?_
            simp only [Act.put, List.setIfInBounds_toArray, List.set_cons_zero, List.set_cons_succ]
            refine take_to (i := 19) (d := some 104) (v := .bool false) rfl rfl (by kernel_rfl) (by kernel_rfl) (by kernel_rfl) (fun _ _ _ h => h) (Or.inl ⟨by rfl, fun w => by go_simp⟩) ?_
            simp only [Act.put, List.setIfInBounds_toArray, List.set_cons_zero, List.set_cons_succ]
            refine take_to (i := 20) (d := some 105) (v := .bool false) rfl rfl (by kernel_rfl) (by kernel_rfl) (by kernel_rfl) (fun _ _ _ h => h) (Or.inl ⟨by rfl, fun w => by go_simp⟩) ?_
            simp only [Act.put, List.setIfInBounds_toArray, List.set_cons_zero, List.set_cons_succ]
            refine take_to (i := 21) (d := some 106) (v := .bool false) rfl rfl (by kernel_rfl) (by kernel_rfl) (by kernel_rfl) (fun _ _ _ h => h) (Or.inl ⟨by rfl, fun w => by go_simp⟩) ?_
            simp only [Act.put, List.setIfInBounds_toArray, List.set_cons_zero, List.set_cons_succ]
            refine take_to (i := 22) (d := some 107) (v := .bool true) rfl rfl (by kernel_rfl) (by kernel_rfl) (by kernel_rfl) (fun _ _ _ h => h) (Or.inl ⟨by rfl, fun w => by go_simp⟩) ?_
            simp only [Act.put, List.setIfInBounds_toArray, List.set_cons_zero, List.set_cons_succ]
            refine take_to (i := 23) (d := some 108) (v := .pointer (some ⟨br, 0, none⟩)) rfl rfl (by kernel_rfl) (by kernel_rfl) (by kernel_rfl) (fun _ _ _ h => h) (Or.inl ⟨by rfl, fun w => by go_simp⟩) ?_
            simp only [Act.put, List.setIfInBounds_toArray, List.set_cons_zero, List.set_cons_succ]
            refine wpAny_ready (rs := [24]) (by kernel_rfl) (by simp) ?_
            refine AllReady.cons rfl (fun K hK => ?_) AllReady.nil
            go_simp
            refine hK _ _ ?_; clear hK K
            refine take_to (i := 25) (d := some 110) (v := .bool true) rfl rfl (by kernel_rfl) (by kernel_rfl) (by kernel_rfl) (fun _ _ _ h => h) (Or.inl ⟨by rfl, fun w => by go_simp⟩) ?_
            simp only [Act.put, List.setIfInBounds_toArray, List.set_cons_zero, List.set_cons_succ]
            refine take_to (i := 26) (d := some 111) (v := .bool false) rfl rfl (by kernel_rfl) (by kernel_rfl) (by kernel_rfl) (fun _ _ _ h => h) (Or.inl ⟨by rfl, fun w => by go_simp⟩) ?_
            simp only [Act.put, List.setIfInBounds_toArray, List.set_cons_zero, List.set_cons_succ]
            refine take_to (i := 27) (d := some 112) (v := .bool false) rfl rfl (by kernel_rfl) (by kernel_rfl) (by kernel_rfl) (fun _ _ _ h => h) (Or.inl ⟨by rfl, fun w => by go_simp⟩) ?_
            simp only [Act.put, List.setIfInBounds_toArray, List.set_cons_zero, List.set_cons_succ]
            refine take_to (i := 28) (d := some 113) (v := .bool false) rfl rfl (by kernel_rfl) (by kernel_rfl) (by kernel_rfl) (fun _ _ _ h => h) (Or.inl ⟨by rfl, fun w => by go_simp⟩) ?_
            simp only [Act.put, List.setIfInBounds_toArray, List.set_cons_zero, List.set_cons_succ]
            refine take_to (i := 29) (d := some 114) (v := .bool false) rfl rfl (by kernel_rfl) (by kernel_rfl) (by kernel_rfl) (fun _ _ _ h => h) (Or.inl ⟨by rfl, fun w => by go_simp⟩) ?_
            simp only [Act.put, List.setIfInBounds_toArray, List.set_cons_zero, List.set_cons_succ]
            refine take_to (i := 30) (d := some 115) (v := .bool false) rfl rfl (by kernel_rfl) (by kernel_rfl) (by kernel_rfl) (fun _ _ _ h => h) (Or.inl ⟨by rfl, fun w => by go_simp⟩) ?_
            simp only [Act.put, List.setIfInBounds_toArray, List.set_cons_zero, List.set_cons_succ]
            refine take_to (i := 31) (d := some 116) (v := undef) rfl rfl (by kernel_rfl) (by kernel_rfl) (by kernel_rfl) (fun _ _ _ h => h) (Or.inr ⟨by rfl, rfl⟩) ?_
            simp only [Act.put, List.setIfInBounds_toArray, List.set_cons_zero, List.set_cons_succ]
            refine take_to (i := 32) (d := some 117) (v := .bool false) rfl rfl (by kernel_rfl) (by kernel_rfl) (by kernel_rfl) (fun _ _ _ h => h) (Or.inl ⟨by rfl, fun w => by go_simp⟩) ?_
            simp only [Act.put, List.setIfInBounds_toArray, List.set_cons_zero, List.set_cons_succ]
            refine take_to (i := 33) (d := some 118) (v := .bool false) rfl rfl (by kernel_rfl) (by kernel_rfl) (by kernel_rfl) (fun _ _ _ h => h) (Or.inl ⟨by rfl, fun w => by go_simp⟩) ?_
            simp only [Act.put, List.setIfInBounds_toArray, List.set_cons_zero, List.set_cons_succ]
            refine take_to (i := 34) (d := some 119) (v := undef) rfl rfl (by kernel_rfl) (by kernel_rfl) (by kernel_rfl) (fun _ _ _ h => h) (Or.inr ⟨by rfl, rfl⟩) ?_
            simp only [Act.put, List.setIfInBounds_toArray, List.set_cons_zero, List.set_cons_succ]
            refine take_to (i := 35) (d := some 120) (v := undef) rfl rfl (by kernel_rfl) (by kernel_rfl) (by kernel_rfl) (fun _ _ _ h => h) (Or.inr ⟨by rfl, rfl⟩) ?_
            simp only [Act.put, List.setIfInBounds_toArray, List.set_cons_zero, List.set_cons_succ]
            refine take_to (i := 36) (d := some 121) (v := undef) rfl rfl (by kernel_rfl) (by kernel_rfl) (by kernel_rfl) (fun _ _ _ h => h) (Or.inr ⟨by rfl, rfl⟩) ?_
            simp only [Act.put, List.setIfInBounds_toArray, List.set_cons_zero, List.set_cons_succ]
            refine take_to (i := 37) (d := some 122) (v := .bool false) rfl rfl (by kernel_rfl) (by kernel_rfl) (by kernel_rfl) (fun _ _ _ h => h) (Or.inl ⟨by rfl, fun w => by go_simp⟩) ?_
            simp only [Act.put, List.setIfInBounds_toArray, List.set_cons_zero, List.set_cons_succ]
            refine take_to (i := 38) (d := some 123) (v := .bool false) rfl rfl (by kernel_rfl) (by kernel_rfl) (by kernel_rfl) (fun _ _ _ h => h) (Or.inl ⟨by rfl, fun w => by go_simp⟩) ?_
            simp only [Act.put, List.setIfInBounds_toArray, List.set_cons_zero, List.set_cons_succ]
            refine wpAny_done (by kernel_rfl) ?_ _
            go_wp2_with (at_mapUpdate; refine storeB_wp rfl _ _ _ rfl bm (idsTo L01 k) rfl (by exact qm5.out) (by rw [idsTo_len]; omega) ri rfl rfl hS ?_; intro w1 m1 g1; have M1 : Hid (MapB w1 bm (idsTo L01 (k + 1))) := (by rw [hKS.out]; exact m1); have B3 : Below bm w5 w1 := (below_drewN q6 _).grown g1 (by have := q6.size; rw [HM.out] at this; exact this) (fun j e => by cases e; exact Nat.le_refl _); clear m1 g1)
            go_roundw
            case rel => exact ⟨k + 1, by omega, by go_num, M1.out, B3⟩
            case measure => simp [intOf]; omega
          by_cases h2 : rk = 2
          · subst h2
            replace fa : oa = true := by rw [fa]; simp
            simp only [ne_eq, not_true_eq_false, decide_false] at fb
            subst fa fb
            clear FE
            have dx0 : V5.drew.cell? ⟨bx, 0, none⟩ = some (.int .i64 x0) := cx0
            have dx1 : V5.drew.cell? ⟨bx, 1, none⟩ = some (.int .i64 x1) := cx1
            have dx2 : V5.drew.cell? ⟨bx, 2, none⟩ = some (.int .i64 x2) := cx2
            have dx3 : V5.drew.cell? ⟨bx, 3, none⟩ = some (.int .i64 x3) := cx3
            have dx4 : V5.drew.cell? ⟨bx, 4, none⟩ = some (.int .i64 x4) := cx4
            have dx5 : V5.drew.cell? ⟨bx, 5, none⟩ = some (.int .i64 x5) := cx5
            have dx6 : V5.drew.cell? ⟨bx, 6, none⟩ = some (.int .i64 x6) := cx6
            have dx7 : V5.drew.cell? ⟨bx, 7, none⟩ = some (.int .u16 x7) := cx7
            have dx8 : V5.drew.cell? ⟨bx, 8, none⟩ = some (.int .u8 x8) := cx8
            have dy0 : V5.drew.cell? ⟨by_, 0, none⟩ = some (.int .i64 y0) := cy0
            have dy1 : V5.drew.cell? ⟨by_, 1, none⟩ = some (.int .i64 y1) := cy1
            have dy2 : V5.drew.cell? ⟨by_, 2, none⟩ = some (.int .i64 y2) := cy2
            have dy3 : V5.drew.cell? ⟨by_, 3, none⟩ = some (.int .i64 y3) := cy3
            have dy4 : V5.drew.cell? ⟨by_, 4, none⟩ = some (.int .i64 y4) := cy4
            have dy5 : V5.drew.cell? ⟨by_, 5, none⟩ = some (.int .i64 y5) := cy5
            have dy6 : V5.drew.cell? ⟨by_, 6, none⟩ = some (.int .i64 y6) := cy6
            have dy7 : V5.drew.cell? ⟨by_, 7, none⟩ = some (.int .u16 y7) := cy7
            have dy8 : V5.drew.cell? ⟨by_, 8, none⟩ = some (.int .u8 y8) := cy8
            have dr0 : V5.drew.cell? ⟨br, 0, none⟩ = some (.int .i64 2) := cr0
            have ld : V5.drew.heap.size = V5.heap.size := rfl
            refine wp_region_any (by kernel_rfl) ?_
            change wpAny _ _ _ _ _ _ _ (World.drew _)
            refine take_to (i := 0) (d := some 85) (v := .int .i64 (k : Int)) rfl rfl (by kernel_rfl) (by kernel_rfl) (by kernel_rfl) (fun _ _ _ h => h) (Or.inl ⟨by rfl, fun w => by go_simp⟩) ?_
            simp only [Act.put, List.setIfInBounds_toArray, List.set_cons_zero, List.set_cons_succ]
            refine take_to (i := 1) (d := some 86) (v := .bool false) rfl rfl (by kernel_rfl) (by kernel_rfl) (by kernel_rfl) (fun _ _ _ h => h) (Or.inl ⟨by rfl, fun w => by go_simp⟩) ?_
            simp only [Act.put, List.setIfInBounds_toArray, List.set_cons_zero, List.set_cons_succ]
            refine take_to (i := 2) (d := some 87) (v := .bool false) rfl rfl (by kernel_rfl) (by kernel_rfl) (by kernel_rfl) (fun _ _ _ h => h) (Or.inl ⟨by rfl, fun w => by go_simp⟩) ?_
            simp only [Act.put, List.setIfInBounds_toArray, List.set_cons_zero, List.set_cons_succ]
            refine take_to (i := 3) (d := some 88) (v := undef) rfl rfl (by kernel_rfl) (by kernel_rfl) (by kernel_rfl) (fun _ _ _ h => h) (Or.inr ⟨by rfl, rfl⟩) ?_
            simp only [Act.put, List.setIfInBounds_toArray, List.set_cons_zero, List.set_cons_succ]
            refine take_to (i := 4) (d := some 89) (v := undef) rfl rfl (by kernel_rfl) (by kernel_rfl) (by kernel_rfl) (fun _ _ _ h => h) (Or.inr ⟨by rfl, rfl⟩) ?_
            simp only [Act.put, List.setIfInBounds_toArray, List.set_cons_zero, List.set_cons_succ]
            refine take_to (i := 5) (d := some 90) (v := undef) rfl rfl (by kernel_rfl) (by kernel_rfl) (by kernel_rfl) (fun _ _ _ h => h) (Or.inr ⟨by rfl, rfl⟩) ?_
            simp only [Act.put, List.setIfInBounds_toArray, List.set_cons_zero, List.set_cons_succ]
            refine take_to (i := 6) (d := some 91) (v := undef) rfl rfl (by kernel_rfl) (by kernel_rfl) (by kernel_rfl) (fun _ _ _ h => h) (Or.inr ⟨by rfl, rfl⟩) ?_
            simp only [Act.put, List.setIfInBounds_toArray, List.set_cons_zero, List.set_cons_succ]
            refine take_to (i := 7) (d := some 92) (v := undef) rfl rfl (by kernel_rfl) (by kernel_rfl) (by kernel_rfl) (fun _ _ _ h => h) (Or.inr ⟨by rfl, rfl⟩) ?_
            simp only [Act.put, List.setIfInBounds_toArray, List.set_cons_zero, List.set_cons_succ]
            refine take_to (i := 8) (d := some 93) (v := undef) rfl rfl (by kernel_rfl) (by kernel_rfl) (by kernel_rfl) (fun _ _ _ h => h) (Or.inr ⟨by rfl, rfl⟩) ?_
            simp only [Act.put, List.setIfInBounds_toArray, List.set_cons_zero, List.set_cons_succ]
            refine take_to (i := 9) (d := some 94) (v := undef) rfl rfl (by kernel_rfl) (by kernel_rfl) (by kernel_rfl) (fun _ _ _ h => h) (Or.inr ⟨by rfl, rfl⟩) ?_
            simp only [Act.put, List.setIfInBounds_toArray, List.set_cons_zero, List.set_cons_succ]
            refine take_to (i := 10) (d := some 95) (v := undef) rfl rfl (by kernel_rfl) (by kernel_rfl) (by kernel_rfl) (fun _ _ _ h => h) (Or.inr ⟨by rfl, rfl⟩) ?_
            simp only [Act.put, List.setIfInBounds_toArray, List.set_cons_zero, List.set_cons_succ]
            refine take_to (i := 11) (d := some 96) (v := undef) rfl rfl (by kernel_rfl) (by kernel_rfl) (by kernel_rfl) (fun _ _ _ h => h) (Or.inr ⟨by rfl, rfl⟩) ?_
            simp only [Act.put, List.setIfInBounds_toArray, List.set_cons_zero, List.set_cons_succ]
            refine take_to (i := 12) (d := some 97) (v := undef) rfl rfl (by kernel_rfl) (by kernel_rfl) (by kernel_rfl) (fun _ _ _ h => h) (Or.inr ⟨by rfl, rfl⟩) ?_
            simp only [Act.put, List.setIfInBounds_toArray, List.set_cons_zero, List.set_cons_succ]
            refine take_to (i := 13) (d := some 98) (v := .bool false) rfl rfl (by kernel_rfl) (by kernel_rfl) (by kernel_rfl) (fun _ _ _ h => h) (Or.inl ⟨by rfl, fun w => by go_simp⟩) ?_
            simp only [Act.put, List.setIfInBounds_toArray, List.set_cons_zero, List.set_cons_succ]
            refine take_to (i := 14) (d := some 99) (v := .bool false) rfl rfl (by kernel_rfl) (by kernel_rfl) (by kernel_rfl) (fun _ _ _ h => h) (Or.inl ⟨by rfl, fun w => by go_simp⟩) ?_
            simp only [Act.put, List.setIfInBounds_toArray, List.set_cons_zero, List.set_cons_succ]
            refine take_to (i := 15) (d := some 100) (v := .bool true) rfl rfl (by kernel_rfl) (by kernel_rfl) (by kernel_rfl) (fun _ _ _ h => h) (Or.inl ⟨by rfl, fun w => by go_simp⟩) ?_
            simp only [Act.put, List.setIfInBounds_toArray, List.set_cons_zero, List.set_cons_succ]
            refine take_to (i := 16) (d := some 101) (v := .pointer (some ⟨br, 0, none⟩)) rfl rfl (by kernel_rfl) (by kernel_rfl) (by kernel_rfl) (fun _ _ _ h => h) (Or.inl ⟨by rfl, fun w => by go_simp⟩) ?_
            simp only [Act.put, List.setIfInBounds_toArray, List.set_cons_zero, List.set_cons_succ]
            refine wpAny_ready (rs := [17]) (by kernel_rfl) (by simp) ?_
            refine AllReady.cons rfl (fun K hK => ?_) AllReady.nil
            go_simp
            refine hK _ _ ?_; clear hK K
            refine take_to (i := 18) (d := some 103) (v := .bool true) rfl rfl (by kernel_rfl) (by kernel_rfl) (by kernel_rfl) (fun _ _ _ h => h) (Or.inl ⟨by rfl, fun w => by go_simp⟩) ?_
            simp only [Act.put, List.setIfInBounds_toArray, List.set_cons_zero, List.set_cons_succ]
            refine take_to (i := 19) (d := some 104) (v := .bool false) rfl rfl (by kernel_rfl) (by kernel_rfl) (by kernel_rfl) (fun _ _ _ h => h) (Or.inl ⟨by rfl, fun w => by go_simp⟩) ?_
            simp only [Act.put, List.setIfInBounds_toArray, List.set_cons_zero, List.set_cons_succ]
            refine take_to (i := 20) (d := some 105) (v := .bool false) rfl rfl (by kernel_rfl) (by kernel_rfl) (by kernel_rfl) (fun _ _ _ h => h) (Or.inl ⟨by rfl, fun w => by go_simp⟩) ?_
            simp only [Act.put, List.setIfInBounds_toArray, List.set_cons_zero, List.set_cons_succ]
            refine take_to (i := 21) (d := some 106) (v := .bool false) rfl rfl (by kernel_rfl) (by kernel_rfl) (by kernel_rfl) (fun _ _ _ h => h) (Or.inl ⟨by rfl, fun w => by go_simp⟩) ?_
            simp only [Act.put, List.setIfInBounds_toArray, List.set_cons_zero, List.set_cons_succ]
            refine take_to (i := 22) (d := some 107) (v := .bool false) rfl rfl (by kernel_rfl) (by kernel_rfl) (by kernel_rfl) (fun _ _ _ h => h) (Or.inl ⟨by rfl, fun w => by go_simp⟩) ?_
            simp only [Act.put, List.setIfInBounds_toArray, List.set_cons_zero, List.set_cons_succ]
            refine take_to (i := 23) (d := some 108) (v := .pointer (some ⟨br, 0, none⟩)) rfl rfl (by kernel_rfl) (by kernel_rfl) (by kernel_rfl) (fun _ _ _ h => h) (Or.inl ⟨by rfl, fun w => by go_simp⟩) ?_
            simp only [Act.put, List.setIfInBounds_toArray, List.set_cons_zero, List.set_cons_succ]
            refine wpAny_ready (rs := [24]) (by kernel_rfl) (by simp) ?_
            refine AllReady.cons rfl (fun K hK => ?_) AllReady.nil
            go_simp
            refine hK _ _ ?_; clear hK K
            refine take_to (i := 25) (d := some 110) (v := .bool false) rfl rfl (by kernel_rfl) (by kernel_rfl) (by kernel_rfl) (fun _ _ _ h => h) (Or.inl ⟨by rfl, fun w => by go_simp⟩) ?_
            simp only [Act.put, List.setIfInBounds_toArray, List.set_cons_zero, List.set_cons_succ]
            refine take_to (i := 26) (d := some 111) (v := .bool false) rfl rfl (by kernel_rfl) (by kernel_rfl) (by kernel_rfl) (fun _ _ _ h => h) (Or.inl ⟨by rfl, fun w => by go_simp⟩) ?_
            simp only [Act.put, List.setIfInBounds_toArray, List.set_cons_zero, List.set_cons_succ]
            refine take_to (i := 27) (d := some 112) (v := .bool false) rfl rfl (by kernel_rfl) (by kernel_rfl) (by kernel_rfl) (fun _ _ _ h => h) (Or.inl ⟨by rfl, fun w => by go_simp⟩) ?_
            simp only [Act.put, List.setIfInBounds_toArray, List.set_cons_zero, List.set_cons_succ]
            refine take_to (i := 28) (d := some 113) (v := .bool false) rfl rfl (by kernel_rfl) (by kernel_rfl) (by kernel_rfl) (fun _ _ _ h => h) (Or.inl ⟨by rfl, fun w => by go_simp⟩) ?_
            simp only [Act.put, List.setIfInBounds_toArray, List.set_cons_zero, List.set_cons_succ]
            refine take_to (i := 29) (d := some 114) (v := .bool true) rfl rfl (by kernel_rfl) (by kernel_rfl) (by kernel_rfl) (fun _ _ _ h => h) (Or.inl ⟨by rfl, fun w => by go_simp⟩) ?_
            simp only [Act.put, List.setIfInBounds_toArray, List.set_cons_zero, List.set_cons_succ]
            refine take_to (i := 30) (d := some 115) (v := .bool true) rfl rfl (by kernel_rfl) (by kernel_rfl) (by kernel_rfl) (fun _ _ _ h => h) (Or.inl ⟨by rfl, fun w => by go_simp⟩) ?_
            simp only [Act.put, List.setIfInBounds_toArray, List.set_cons_zero, List.set_cons_succ]
            refine take_to (i := 31) (d := some 116) (v := .bool false) rfl rfl (by kernel_rfl) (by kernel_rfl) (by kernel_rfl) (fun _ _ _ h => h) (Or.inl ⟨by rfl, fun w => by go_simp⟩) ?_
            simp only [Act.put, List.setIfInBounds_toArray, List.set_cons_zero, List.set_cons_succ]
            refine take_to (i := 32) (d := some 117) (v := .bool false) rfl rfl (by kernel_rfl) (by kernel_rfl) (by kernel_rfl) (fun _ _ _ h => h) (Or.inl ⟨by rfl, fun w => by go_simp⟩) ?_
            simp only [Act.put, List.setIfInBounds_toArray, List.set_cons_zero, List.set_cons_succ]
            refine take_to (i := 33) (d := some 118) (v := .bool false) rfl rfl (by kernel_rfl) (by kernel_rfl) (by kernel_rfl) (fun _ _ _ h => h) (Or.inl ⟨by rfl, fun w => by go_simp⟩) ?_
            simp only [Act.put, List.setIfInBounds_toArray, List.set_cons_zero, List.set_cons_succ]
            refine take_to (i := 34) (d := some 119) (v := undef) rfl rfl (by kernel_rfl) (by kernel_rfl) (by kernel_rfl) (fun _ _ _ h => h) (Or.inr ⟨by rfl, rfl⟩) ?_
            simp only [Act.put, List.setIfInBounds_toArray, List.set_cons_zero, List.set_cons_succ]
            refine take_to (i := 35) (d := some 120) (v := undef) rfl rfl (by kernel_rfl) (by kernel_rfl) (by kernel_rfl) (fun _ _ _ h => h) (Or.inr ⟨by rfl, rfl⟩) ?_
            simp only [Act.put, List.setIfInBounds_toArray, List.set_cons_zero, List.set_cons_succ]
            refine take_to (i := 36) (d := some 121) (v := undef) rfl rfl (by kernel_rfl) (by kernel_rfl) (by kernel_rfl) (fun _ _ _ h => h) (Or.inr ⟨by rfl, rfl⟩) ?_
            simp only [Act.put, List.setIfInBounds_toArray, List.set_cons_zero, List.set_cons_succ]
            refine take_to (i := 37) (d := some 122) (v := .bool false) rfl rfl (by kernel_rfl) (by kernel_rfl) (by kernel_rfl) (fun _ _ _ h => h) (Or.inl ⟨by rfl, fun w => by go_simp⟩) ?_
            simp only [Act.put, List.setIfInBounds_toArray, List.set_cons_zero, List.set_cons_succ]
            refine take_to (i := 38) (d := some 123) (v := .bool false) rfl rfl (by kernel_rfl) (by kernel_rfl) (by kernel_rfl) (fun _ _ _ h => h) (Or.inl ⟨by rfl, fun w => by go_simp⟩) ?_
            simp only [Act.put, List.setIfInBounds_toArray, List.set_cons_zero, List.set_cons_succ]
            refine wpAny_done (by kernel_rfl) ?_ _
            go_wp2_with (at_mapUpdate; refine storeB_wp rfl _ _ _ rfl bm (idsTo L01 k) rfl (by exact qm5.out) (by rw [idsTo_len]; omega) ri rfl rfl hS ?_; intro w1 m1 g1; have M1 : Hid (MapB w1 bm (idsTo L01 (k + 1))) := (by rw [hKS.out]; exact m1); have B3 : Below bm w5 w1 := (below_drewN q6 _).grown g1 (by have := q6.size; rw [HM.out] at this; exact this) (fun j e => by cases e; exact Nat.le_refl _); clear m1 g1)
            go_roundw
            case rel => exact ⟨k + 1, by omega, by go_num, M1.out, B3⟩
            case measure => simp [intOf]; omega
          replace fa : oa = true := by rw [fa]; simp [h0]
          replace fb : ob = true := by rw [fb]; simp [h2]
          subst fa fb
          have fe := FE.out rfl rfl
          have h0b : (rk == 0) = false := by simp [h0]
          have h2b : (rk == 2) = false := by simp [h2]
          have h0c : (rk != 0) = true := by simp [h0]
          have h2c : (rk != 2) = true := by simp [h2]
          clear FE
          have dx0 : V5.drew.cell? ⟨bx, 0, none⟩ = some (.int .i64 x0) := cx0
          have dx1 : V5.drew.cell? ⟨bx, 1, none⟩ = some (.int .i64 x1) := cx1
          have dx2 : V5.drew.cell? ⟨bx, 2, none⟩ = some (.int .i64 x2) := cx2
          have dx3 : V5.drew.cell? ⟨bx, 3, none⟩ = some (.int .i64 x3) := cx3
          have dx4 : V5.drew.cell? ⟨bx, 4, none⟩ = some (.int .i64 x4) := cx4
          have dx5 : V5.drew.cell? ⟨bx, 5, none⟩ = some (.int .i64 x5) := cx5
          have dx6 : V5.drew.cell? ⟨bx, 6, none⟩ = some (.int .i64 x6) := cx6
          have dx7 : V5.drew.cell? ⟨bx, 7, none⟩ = some (.int .u16 x7) := cx7
          have dx8 : V5.drew.cell? ⟨bx, 8, none⟩ = some (.int .u8 x8) := cx8
          have dy0 : V5.drew.cell? ⟨by_, 0, none⟩ = some (.int .i64 y0) := cy0
          have dy1 : V5.drew.cell? ⟨by_, 1, none⟩ = some (.int .i64 y1) := cy1
          have dy2 : V5.drew.cell? ⟨by_, 2, none⟩ = some (.int .i64 y2) := cy2
          have dy3 : V5.drew.cell? ⟨by_, 3, none⟩ = some (.int .i64 y3) := cy3
          have dy4 : V5.drew.cell? ⟨by_, 4, none⟩ = some (.int .i64 y4) := cy4
          have dy5 : V5.drew.cell? ⟨by_, 5, none⟩ = some (.int .i64 y5) := cy5
          have dy6 : V5.drew.cell? ⟨by_, 6, none⟩ = some (.int .i64 y6) := cy6
          have dy7 : V5.drew.cell? ⟨by_, 7, none⟩ = some (.int .u16 y7) := cy7
          have dy8 : V5.drew.cell? ⟨by_, 8, none⟩ = some (.int .u8 y8) := cy8
          have dr0 : V5.drew.cell? ⟨br, 0, none⟩ = some (.int .i64 rk) := cr0
          have ld : V5.drew.heap.size = V5.heap.size := rfl
          refine wp_region_any (by kernel_rfl) ?_
          change wpAny _ _ _ _ _ _ _ (World.drew _)
          refine take_to (i := 0) (d := some 85) (v := .int .i64 (k : Int)) rfl rfl (by kernel_rfl) (by kernel_rfl) (by kernel_rfl) (fun _ _ _ h => h) (Or.inl ⟨by rfl, fun w => by go_simp⟩) ?_
          simp only [Act.put, List.setIfInBounds_toArray, List.set_cons_zero, List.set_cons_succ]
          refine take_to (i := 1) (d := some 86) (v := .bool false) rfl rfl (by kernel_rfl) (by kernel_rfl) (by kernel_rfl) (fun _ _ _ h => h) (Or.inl ⟨by rfl, fun w => by go_simp⟩) ?_
          simp only [Act.put, List.setIfInBounds_toArray, List.set_cons_zero, List.set_cons_succ]
          refine take_to (i := 2) (d := some 87) (v := .bool false) rfl rfl (by kernel_rfl) (by kernel_rfl) (by kernel_rfl) (fun _ _ _ h => h) (Or.inl ⟨by rfl, fun w => by go_simp⟩) ?_
          simp only [Act.put, List.setIfInBounds_toArray, List.set_cons_zero, List.set_cons_succ]
          refine take_to (i := 3) (d := some 88) (v := undef) rfl rfl (by kernel_rfl) (by kernel_rfl) (by kernel_rfl) (fun _ _ _ h => h) (Or.inr ⟨by rfl, rfl⟩) ?_
          simp only [Act.put, List.setIfInBounds_toArray, List.set_cons_zero, List.set_cons_succ]
          refine take_to (i := 4) (d := some 89) (v := undef) rfl rfl (by kernel_rfl) (by kernel_rfl) (by kernel_rfl) (fun _ _ _ h => h) (Or.inr ⟨by rfl, rfl⟩) ?_
          simp only [Act.put, List.setIfInBounds_toArray, List.set_cons_zero, List.set_cons_succ]
          refine take_to (i := 5) (d := some 90) (v := undef) rfl rfl (by kernel_rfl) (by kernel_rfl) (by kernel_rfl) (fun _ _ _ h => h) (Or.inr ⟨by rfl, rfl⟩) ?_
          simp only [Act.put, List.setIfInBounds_toArray, List.set_cons_zero, List.set_cons_succ]
          refine take_to (i := 6) (d := some 91) (v := undef) rfl rfl (by kernel_rfl) (by kernel_rfl) (by kernel_rfl) (fun _ _ _ h => h) (Or.inr ⟨by rfl, rfl⟩) ?_
          simp only [Act.put, List.setIfInBounds_toArray, List.set_cons_zero, List.set_cons_succ]
          refine take_to (i := 7) (d := some 92) (v := undef) rfl rfl (by kernel_rfl) (by kernel_rfl) (by kernel_rfl) (fun _ _ _ h => h) (Or.inr ⟨by rfl, rfl⟩) ?_
          simp only [Act.put, List.setIfInBounds_toArray, List.set_cons_zero, List.set_cons_succ]
          refine take_to (i := 8) (d := some 93) (v := undef) rfl rfl (by kernel_rfl) (by kernel_rfl) (by kernel_rfl) (fun _ _ _ h => h) (Or.inr ⟨by rfl, rfl⟩) ?_
          simp only [Act.put, List.setIfInBounds_toArray, List.set_cons_zero, List.set_cons_succ]
          refine take_to (i := 9) (d := some 94) (v := undef) rfl rfl (by kernel_rfl) (by kernel_rfl) (by kernel_rfl) (fun _ _ _ h => h) (Or.inr ⟨by rfl, rfl⟩) ?_
          simp only [Act.put, List.setIfInBounds_toArray, List.set_cons_zero, List.set_cons_succ]
          refine take_to (i := 10) (d := some 95) (v := undef) rfl rfl (by kernel_rfl) (by kernel_rfl) (by kernel_rfl) (fun _ _ _ h => h) (Or.inr ⟨by rfl, rfl⟩) ?_
          simp only [Act.put, List.setIfInBounds_toArray, List.set_cons_zero, List.set_cons_succ]
          refine take_to (i := 11) (d := some 96) (v := undef) rfl rfl (by kernel_rfl) (by kernel_rfl) (by kernel_rfl) (fun _ _ _ h => h) (Or.inr ⟨by rfl, rfl⟩) ?_
          simp only [Act.put, List.setIfInBounds_toArray, List.set_cons_zero, List.set_cons_succ]
          refine take_to (i := 12) (d := some 97) (v := undef) rfl rfl (by kernel_rfl) (by kernel_rfl) (by kernel_rfl) (fun _ _ _ h => h) (Or.inr ⟨by rfl, rfl⟩) ?_
          simp only [Act.put, List.setIfInBounds_toArray, List.set_cons_zero, List.set_cons_succ]
          refine take_to (i := 13) (d := some 98) (v := .bool false) rfl rfl (by kernel_rfl) (by kernel_rfl) (by kernel_rfl) (fun _ _ _ h => h) (Or.inl ⟨by rfl, fun w => by go_simp⟩) ?_
          simp only [Act.put, List.setIfInBounds_toArray, List.set_cons_zero, List.set_cons_succ]
          refine take_to (i := 14) (d := some 99) (v := .bool false) rfl rfl (by kernel_rfl) (by kernel_rfl) (by kernel_rfl) (fun _ _ _ h => h) (Or.inl ⟨by rfl, fun w => by go_simp⟩) ?_
          simp only [Act.put, List.setIfInBounds_toArray, List.set_cons_zero, List.set_cons_succ]
          refine take_to (i := 15) (d := some 100) (v := .bool true) rfl rfl (by kernel_rfl) (by kernel_rfl) (by kernel_rfl) (fun _ _ _ h => h) (Or.inl ⟨by rfl, fun w => by go_simp⟩) ?_
          simp only [Act.put, List.setIfInBounds_toArray, List.set_cons_zero, List.set_cons_succ]
          refine take_to (i := 16) (d := some 101) (v := .pointer (some ⟨br, 0, none⟩)) rfl rfl (by kernel_rfl) (by kernel_rfl) (by kernel_rfl) (fun _ _ _ h => h) (Or.inl ⟨by rfl, fun w => by go_simp⟩) ?_
          simp only [Act.put, List.setIfInBounds_toArray, List.set_cons_zero, List.set_cons_succ]
          refine wpAny_ready (rs := [17]) (by kernel_rfl) (by simp) ?_
          refine AllReady.cons rfl (fun K hK => ?_) AllReady.nil
          go_simp
          refine hK _ _ ?_; clear hK K
          refine take_to (i := 18) (d := some 103) (v := .bool true) rfl rfl (by kernel_rfl) (by kernel_rfl) (by kernel_rfl) (fun _ _ _ h => h) (Or.inl ⟨by rfl, fun w => by go_simp⟩) ?_
          simp only [Act.put, List.setIfInBounds_toArray, List.set_cons_zero, List.set_cons_succ]
          refine take_to (i := 19) (d := some 104) (v := .bool false) rfl rfl (by kernel_rfl) (by kernel_rfl) (by kernel_rfl) (fun _ _ _ h => h) (Or.inl ⟨by rfl, fun w => by go_simp⟩) ?_
          simp only [Act.put, List.setIfInBounds_toArray, List.set_cons_zero, List.set_cons_succ]
          refine take_to (i := 20) (d := some 105) (v := .bool false) rfl rfl (by kernel_rfl) (by kernel_rfl) (by kernel_rfl) (fun _ _ _ h => h) (Or.inl ⟨by rfl, fun w => by go_simp⟩) ?_
          simp only [Act.put, List.setIfInBounds_toArray, List.set_cons_zero, List.set_cons_succ]
          refine take_to (i := 21) (d := some 106) (v := .bool false) rfl rfl (by kernel_rfl) (by kernel_rfl) (by kernel_rfl) (fun _ _ _ h => h) (Or.inl ⟨by rfl, fun w => by go_simp⟩) ?_
          simp only [Act.put, List.setIfInBounds_toArray, List.set_cons_zero, List.set_cons_succ]
          refine take_to (i := 22) (d := some 107) (v := .bool true) rfl rfl (by kernel_rfl) (by kernel_rfl) (by kernel_rfl) (fun _ _ _ h => h) (Or.inl ⟨by rfl, fun w => by go_simp⟩) ?_
          simp only [Act.put, List.setIfInBounds_toArray, List.set_cons_zero, List.set_cons_succ]
          refine take_to (i := 23) (d := some 108) (v := .pointer (some ⟨br, 0, none⟩)) rfl rfl (by kernel_rfl) (by kernel_rfl) (by kernel_rfl) (fun _ _ _ h => h) (Or.inl ⟨by rfl, fun w => by go_simp⟩) ?_
          simp only [Act.put, List.setIfInBounds_toArray, List.set_cons_zero, List.set_cons_succ]
          refine wpAny_ready (rs := [24]) (by kernel_rfl) (by simp) ?_
          refine AllReady.cons rfl (fun K hK => ?_) AllReady.nil
          go_simp
          refine hK _ _ ?_; clear hK K
          refine take_to (i := 25) (d := some 110) (v := .bool true) rfl rfl (by kernel_rfl) (by kernel_rfl) (by kernel_rfl) (fun _ _ _ h => h) (Or.inl ⟨by rfl, fun w => by go_simp⟩) ?_
          simp only [Act.put, List.setIfInBounds_toArray, List.set_cons_zero, List.set_cons_succ]
          refine take_to (i := 26) (d := some 111) (v := .bool false) rfl rfl (by kernel_rfl) (by kernel_rfl) (by kernel_rfl) (fun _ _ _ h => h) (Or.inl ⟨by rfl, fun w => by go_simp⟩) ?_
          simp only [Act.put, List.setIfInBounds_toArray, List.set_cons_zero, List.set_cons_succ]
          refine take_to (i := 27) (d := some 112) (v := .bool false) rfl rfl (by kernel_rfl) (by kernel_rfl) (by kernel_rfl) (fun _ _ _ h => h) (Or.inl ⟨by rfl, fun w => by go_simp⟩) ?_
          simp only [Act.put, List.setIfInBounds_toArray, List.set_cons_zero, List.set_cons_succ]
          refine take_to (i := 28) (d := some 113) (v := .bool false) rfl rfl (by kernel_rfl) (by kernel_rfl) (by kernel_rfl) (fun _ _ _ h => h) (Or.inl ⟨by rfl, fun w => by go_simp⟩) ?_
          simp only [Act.put, List.setIfInBounds_toArray, List.set_cons_zero, List.set_cons_succ]
          refine take_to (i := 29) (d := some 114) (v := .bool true) rfl rfl (by kernel_rfl) (by kernel_rfl) (by kernel_rfl) (fun _ _ _ h => h) (Or.inl ⟨by rfl, fun w => by go_simp⟩) ?_
          simp only [Act.put, List.setIfInBounds_toArray, List.set_cons_zero, List.set_cons_succ]
          refine take_to (i := 30) (d := some 115) (v := .bool true) rfl rfl (by kernel_rfl) (by kernel_rfl) (by kernel_rfl) (fun _ _ _ h => h) (Or.inl ⟨by rfl, fun w => by go_simp⟩) ?_
          simp only [Act.put, List.setIfInBounds_toArray, List.set_cons_zero, List.set_cons_succ]
          refine take_to (i := 31) (d := some 116) (v := .bool true) rfl rfl (by kernel_rfl) (by kernel_rfl) (by kernel_rfl) (fun _ _ _ h => h) (Or.inl ⟨by rfl, fun w => by go_simp⟩) ?_
          simp only [Act.put, List.setIfInBounds_toArray, List.set_cons_zero, List.set_cons_succ]
          refine take_to (i := 32) (d := some 117) (v := .bool true) rfl rfl (by kernel_rfl) (by kernel_rfl) (by kernel_rfl) (fun _ _ _ h => h) (Or.inl ⟨by rfl, fun w => by go_simp⟩) ?_
          simp only [Act.put, List.setIfInBounds_toArray, List.set_cons_zero, List.set_cons_succ]
          refine take_to (i := 33) (d := some 118) (v := .bool true) rfl rfl (by kernel_rfl) (by kernel_rfl) (by kernel_rfl) (fun _ _ _ h => h) (Or.inl ⟨by rfl, fun w => by go_simp⟩) ?_
          simp only [Act.put, List.setIfInBounds_toArray, List.set_cons_zero, List.set_cons_succ]
          refine wpAny_ready (rs := [34, 35]) (by kernel_rfl) (by simp) ?_
          refine AllReady.cons rfl (fun K hK => ?_) ?_
          · go_simp
            refine hK _ _ ?_; clear hK K
            refine wpAny_ready (rs := [35]) (by kernel_rfl) (by simp) ?_
            refine AllReady.cons rfl (fun K hK => ?_) ?_
            · go_simp
              refine hK _ _ ?_; clear hK K
              refine take_to (i := 36) (d := some 121) (v := .bool false) rfl rfl (by kernel_rfl) (by kernel_rfl) (by kernel_rfl) (fun _ _ _ h => h) (Or.inl ⟨by rfl, fun w => by go_simp⟩) ?_
              simp only [Act.put, List.setIfInBounds_toArray, List.set_cons_zero, List.set_cons_succ]
              refine take_to (i := 37) (d := some 122) (v := .bool false) rfl rfl (by kernel_rfl) (by kernel_rfl) (by kernel_rfl) (fun _ _ _ h => h) (Or.inl ⟨by rfl, fun w => by go_simp⟩) ?_
              simp only [Act.put, List.setIfInBounds_toArray, List.set_cons_zero, List.set_cons_succ]
              refine take_to (i := 38) (d := some 123) (v := .bool false) rfl rfl (by kernel_rfl) (by kernel_rfl) (by kernel_rfl) (fun _ _ _ h => h) (Or.inl ⟨by rfl, fun w => by go_simp⟩) ?_
              simp only [Act.put, List.setIfInBounds_toArray, List.set_cons_zero, List.set_cons_succ]
              refine wpAny_done (by kernel_rfl) ?_ _
              go_wp2_with (at_mapUpdate; refine storeB_wp rfl _ _ _ rfl bm (idsTo L01 k) rfl (by exact qm5.out) (by rw [idsTo_len]; omega) ri rfl rfl hS ?_; intro w1 m1 g1; have M1 : Hid (MapB w1 bm (idsTo L01 (k + 1))) := (by rw [hKS.out]; exact m1); have B3 : Below bm w5 w1 := (below_drewN q6 _).grown g1 (by have := q6.size; rw [HM.out] at this; exact this) (fun j e => by cases e; exact Nat.le_refl _); clear m1 g1)
              go_roundw
              case rel => exact ⟨k + 1, by omega, by go_num, M1.out, B3⟩
              case measure => simp [intOf]; omega
            exact AllReady.nil
          refine AllReady.cons rfl (fun K hK => ?_) ?_
          · go_simp
            refine hK _ _ ?_; clear hK K
            refine wpAny_ready (rs := [34]) (by kernel_rfl) (by simp) ?_
            refine AllReady.cons rfl (fun K hK => ?_) ?_
            · go_simp
              refine hK _ _ ?_; clear hK K
              refine take_to (i := 36) (d := some 121) (v := .bool false) rfl rfl (by kernel_rfl) (by kernel_rfl) (by kernel_rfl) (fun _ _ _ h => h) (Or.inl ⟨by rfl, fun w => by go_simp⟩) ?_
              simp only [Act.put, List.setIfInBounds_toArray, List.set_cons_zero, List.set_cons_succ]
              refine take_to (i := 37) (d := some 122) (v := .bool false) rfl rfl (by kernel_rfl) (by kernel_rfl) (by kernel_rfl) (fun _ _ _ h => h) (Or.inl ⟨by rfl, fun w => by go_simp⟩) ?_
              simp only [Act.put, List.setIfInBounds_toArray, List.set_cons_zero, List.set_cons_succ]
              refine take_to (i := 38) (d := some 123) (v := .bool false) rfl rfl (by kernel_rfl) (by kernel_rfl) (by kernel_rfl) (fun _ _ _ h => h) (Or.inl ⟨by rfl, fun w => by go_simp⟩) ?_
              simp only [Act.put, List.setIfInBounds_toArray, List.set_cons_zero, List.set_cons_succ]
              refine wpAny_done (by kernel_rfl) ?_ _
              go_wp2_with (at_mapUpdate; refine storeB_wp rfl _ _ _ rfl bm (idsTo L01 k) rfl (by exact qm5.out) (by rw [idsTo_len]; omega) ri rfl rfl hS ?_; intro w1 m1 g1; have M1 : Hid (MapB w1 bm (idsTo L01 (k + 1))) := (by rw [hKS.out]; exact m1); have B3 : Below bm w5 w1 := (below_drewN q6 _).grown g1 (by have := q6.size; rw [HM.out] at this; exact this) (fun j e => by cases e; exact Nat.le_refl _); clear m1 g1)
              go_roundw
              case rel => exact ⟨k + 1, by omega, by go_num, M1.out, B3⟩
              case measure => simp [intOf]; omega
            exact AllReady.nil
          exact AllReady.nil
        · obtain ⟨j, hj⟩ : ∃ j, k = j + 1 := ⟨k - 1, by omega⟩
          have X3 := X03.out j (by omega)
          have hjk : j + 1 = k := hj.symm
          rw [hjk, HK.out] at X3
          obtain ⟨b2, o2, hp2, -, hcell2⟩ := rdR_at N01_5.out (k := j) (by omega)
          injection hp2 with hp2
          injection hp2 with hp2 hp3
          subst hp2 hp3
          obtain ⟨rj, hrj⟩ : ∃ x, (atR L01 j).i = x := ⟨_, rfl⟩
          rw [hrj] at X3
          have cj : V5.cell? ⟨b, o + j * 9 + 1, none⟩ = some (.int .i64 rj) := (q6.cell (p := ⟨b, o + j * 9 + 1, none⟩) hbm').trans (hcell2 1 _ (by rw [← hrj]; rfl))
          have lj : b < V5.heap.size := World.block_lt_of_cell? V5 _ cj
          have hw1 : IntKind.i64.wrap ((k : Int) - 1) = (j : Int) := by rw [IntKind.wrap_i64]; omega
          have hd2 : 0 < k := by omega
          have hge : decide (ri ≤ rj) = false := decide_eq_false (by omega)
          have hw2 : wrap64 ((k : Int) - 1) = (j : Int) := by unfold wrap64; omega
          have hj0 : (0 : Int) ≤ (j : Int) := by omega
          have hj1 : (j : Int) < (l01 : Int) := by omega
          clear hcell2 hrj hj hjk X3
          by_cases h0 : rk = 0
          · subst h0
            simp only [ne_eq, not_true_eq_false, decide_false] at fa
            replace fb : ob = true := by rw [fb]; simp
            subst fa fb
            clear FE
            go_quiet (fail)
            go_wp2_with (at_mapUpdate; refine storeB_wp rfl _ _ _ rfl bm (idsTo L01 k) rfl (by exact qm5.out) (by rw [idsTo_len]; omega) ri rfl rfl hS ?_; intro w1 m1 g1; have M1 : Hid (MapB w1 bm (idsTo L01 (k + 1))) := (by rw [hKS.out]; exact m1); have B3 : Below bm w5 w1 := (below_drewN q6 _).grown g1 (by have := q6.size; rw [HM.out] at this; exact this) (fun j e => by cases e; exact Nat.le_refl _); clear m1 g1)
            go_roundw
            case rel => exact ⟨k + 1, by omega, by go_num, M1.out, B3⟩
            case measure => simp [intOf]; omega
          by_cases h2 : rk = 2
          · subst h2
            replace fa : oa = true := by rw [fa]; simp
            simp only [ne_eq, not_true_eq_false, decide_false] at fb
            subst fa fb
            clear FE
            go_quiet (fail)
            go_wp2_with (at_mapUpdate; refine storeB_wp rfl _ _ _ rfl bm (idsTo L01 k) rfl (by exact qm5.out) (by rw [idsTo_len]; omega) ri rfl rfl hS ?_; intro w1 m1 g1; have M1 : Hid (MapB w1 bm (idsTo L01 (k + 1))) := (by rw [hKS.out]; exact m1); have B3 : Below bm w5 w1 := (below_drewN q6 _).grown g1 (by have := q6.size; rw [HM.out] at this; exact this) (fun j e => by cases e; exact Nat.le_refl _); clear m1 g1)
            go_roundw
            case rel => exact ⟨k + 1, by omega, by go_num, M1.out, B3⟩
            case measure => simp [intOf]; omega
          replace fa : oa = true := by rw [fa]; simp [h0]
          replace fb : ob = true := by rw [fb]; simp [h2]
          subst fa fb
          have fe := FE.out rfl rfl
          have h0b : (rk == 0) = false := by simp [h0]
          have h2b : (rk == 2) = false := by simp [h2]
          have h0c : (rk != 0) = true := by simp [h0]
          have h2c : (rk != 2) = true := by simp [h2]
          clear FE
          go_quiet (fail)
          go_wp2_with (at_mapUpdate; refine storeB_wp rfl _ _ _ rfl bm (idsTo L01 k) rfl (by exact qm5.out) (by rw [idsTo_len]; omega) ri rfl rfl hS ?_; intro w1 m1 g1; have M1 : Hid (MapB w1 bm (idsTo L01 (k + 1))) := (by rw [hKS.out]; exact m1); have B3 : Below bm w5 w1 := (below_drewN q6 _).grown g1 (by have := q6.size; rw [HM.out] at this; exact this) (fun j e => by cases e; exact Nat.le_refl _); clear m1 g1)
          go_roundw
          case rel => exact ⟨k + 1, by omega, by go_num, M1.out, B3⟩
          case measure => simp [intOf]; omega
      · obtain rfl : k = l01 := by omega
        have qM : Hid (MapB wr bm (idsTo L01 k)) := qm
        obtain ⟨S, hSS⟩ : ∃ x, idsTo L01 k = x := ⟨_, rfl⟩
        rw [hSS] at qM X04
        clear hSS qm X02 X03 FB
        have bT := b_5.below q5 hbl
        have cb0 := bT.cell 0 _ rfl
        have cb1 := bT.cell 1 _ rfl
        have cb2 := bT.cell 2 _ rfl
        have lb := bT.lt
        clear bT
        go_upto_region 19 with fail
        clear cb0 cb1 cb2 lb
        go_loopw [131] (fun i wq => ∃ j : Nat, j ≤ n1 ∧ i = .int .i64 j ∧ MapB wq bm S ∧ Below bm w5 wq) (fun i _ => n1 - (intOf i).toNat)
        case atStart => exact ⟨0, by omega, rfl, qM.out, q5⟩
        case round =>
          obtain ⟨j, hj, rfl, qm, q5⟩ := hrel
          clear qM
          by_cases hlt2 : j < n1
          · have okj := E1.out j hlt2
            have hmem : A1 j ∈ preE A1 n1 := by unfold preE; exact List.mem_map.2 ⟨j, by simpa using hlt2, rfl⟩
            have X4 := X04.out _ hmem
            obtain ⟨b, o, hp, hbw, hcell⟩ := rdE_at R1_5.out hlt2
            subst hp
            have hbm' : b < bm := by rw [← HM.out]; exact hbw
            have hS := okj.i
            obtain ⟨⟨x0, x1, x2, x3, x4, x5, x6, x7, x8⟩, hr⟩ : ∃ r, A1 j = r := ⟨_, rfl⟩
            rw [hr] at X4 hcell hS
            simp only at X4 hS
            have c0 : wr.cell? ⟨b, o + j * 9, none⟩ = some (.int .i64 x0) := (q5.cell (p := ⟨b, o + j * 9, none⟩) hbm').trans (hcell 0 _ rfl)
            have c1 : wr.cell? ⟨b, o + j * 9 + 1, none⟩ = some (.int .i64 x1) := (q5.cell (p := ⟨b, o + j * 9 + 1, none⟩) hbm').trans (hcell 1 _ rfl)
            have c2 : wr.cell? ⟨b, o + j * 9 + 2, none⟩ = some (.int .i64 x2) := (q5.cell (p := ⟨b, o + j * 9 + 2, none⟩) hbm').trans (hcell 2 _ rfl)
            have c3 : wr.cell? ⟨b, o + j * 9 + 3, none⟩ = some (.int .i64 x3) := (q5.cell (p := ⟨b, o + j * 9 + 3, none⟩) hbm').trans (hcell 3 _ rfl)
            have c4 : wr.cell? ⟨b, o + j * 9 + 4, none⟩ = some (.int .i64 x4) := (q5.cell (p := ⟨b, o + j * 9 + 4, none⟩) hbm').trans (hcell 4 _ rfl)
            have c5 : wr.cell? ⟨b, o + j * 9 + 5, none⟩ = some (.int .i64 x5) := (q5.cell (p := ⟨b, o + j * 9 + 5, none⟩) hbm').trans (hcell 5 _ rfl)
            have c6 : wr.cell? ⟨b, o + j * 9 + 6, none⟩ = some (.int .i64 x6) := (q5.cell (p := ⟨b, o + j * 9 + 6, none⟩) hbm').trans (hcell 6 _ rfl)
            have c7 : wr.cell? ⟨b, o + j * 9 + 7, none⟩ = some (.int .u16 x7) := (q5.cell (p := ⟨b, o + j * 9 + 7, none⟩) hbm').trans (hcell 7 _ rfl)
            have c8 : wr.cell? ⟨b, o + j * 9 + 8, none⟩ = some (.int .u8 x8) := (q5.cell (p := ⟨b, o + j * 9 + 8, none⟩) hbm').trans (hcell 8 _ rfl)
            have lr : b < wr.heap.size := World.block_lt_of_cell? wr _ c0
            clear hr hcell hmem okj
            obtain ⟨oa, hoa⟩ : ∃ x, isO (findE x0 (preE A0 n0)) = x := ⟨_, rfl⟩
            obtain ⟨ea, hea⟩ : ∃ x, getE (findE x0 (preE A0 n0)) = x := ⟨_, rfl⟩
            have FA1 : Hid (_) := FA.out x0
            rw [hoa, hea] at FA1
            have X5 : Hid (x0 ∈ S ∨ (oa = true ∧ ea = ⟨x0, x1, x2, x3, x4, x5, x6, x7, x8⟩)) := by
              rcases X4 with h | h
              · exact Or.inl h
              · rw [h] at hoa hea; exact Or.inr ⟨hoa.symm, hea.symm⟩
            clear hoa hea X4
            obtain ⟨y0, y1, y2, y3, y4, y5, y6, y7, y8⟩ := ea
            go_upto_region 21 with fail
            generalize hW : wr.alloc (.cells #[.int .i64 x0, .int .i64 x1, .int .i64 x2, .int .i64 x3, .int .i64 x4, .int .i64 x5, .int .i64 x6, .int .u16 x7, .int .u8 x8] 40) = V1
            obtain ⟨x_1, bb, -⟩ := boxed hW
            obtain ⟨bx, hbx⟩ : ∃ x, wr.heap.size = x := ⟨_, rfl⟩
            have qm1 := qm.below bb
            have q1 : Below bm w5 V1 := bup q5 (Nat.le_of_eq HM.out.symm) bb
            rw [hbx] at x_1 ⊢
            clear hW bb hbx qm c0 c1 c2 c3 c4 c5 c6 c7 c8 lr
            have aT := a_5.below q1 hal
            have ca0 := aT.cell 0 _ rfl
            have ca1 := aT.cell 1 _ rfl
            have ca2 := aT.cell 2 _ rfl
            have la := aT.lt
            have cx0 := x_1.cell 0 _ rfl
            have cx1 := x_1.cell 1 _ rfl
            have cx2 := x_1.cell 2 _ rfl
            have cx3 := x_1.cell 3 _ rfl
            have cx4 := x_1.cell 4 _ rfl
            have cx5 := x_1.cell 5 _ rfl
            have cx6 := x_1.cell 6 _ rfl
            have cx7 := x_1.cell 7 _ rfl
            have cx8 := x_1.cell 8 _ rfl
            have lx := x_1.lt
            go_wp2_with fail
            refine (FA1.out _ (R0_5.out.below (by rw [HM.out]; exact q1))).mono ?_; rintro e V2 ⟨rfl, bb⟩
            have x_2 := x_1.below bb x_1.lt
            have qm2 := qm1.below bb
            have q2 : Below bm w5 V2 := bup q1 (Nat.le_of_eq HM.out.symm) bb
            clear ca0 ca1 ca2 la aT cx0 cx1 cx2 cx3 cx4 cx5 cx6 cx7 cx8 lx x_1 qm1 q1 bb FA1
            go_upto_region 22 with fail
            generalize hW : V2.alloc (.cells #[.int .i64 y0, .int .i64 y1, .int .i64 y2, .int .i64 y3, .int .i64 y4, .int .i64 y5, .int .i64 y6, .int .u16 y7, .int .u8 y8] 40) = V3
            obtain ⟨y_3, bb, -⟩ := boxed hW
            obtain ⟨by_, hby⟩ : ∃ x, V2.heap.size = x := ⟨_, rfl⟩
            have x_3 := x_2.below bb x_2.lt
            have qm3 : Hid (MapB V3 bm S) := qm2.below bb
            have q3 : Below bm w5 V3 := bup q2 (Nat.le_of_eq HM.out.symm) bb
            rw [hby] at y_3 ⊢
            clear hW bb hby x_2 qm2 q2 q5
            have cx0 := x_3.cell 0 _ rfl
            have cx1 := x_3.cell 1 _ rfl
            have cx2 := x_3.cell 2 _ rfl
            have cx3 := x_3.cell 3 _ rfl
            have cx4 := x_3.cell 4 _ rfl
            have cx5 := x_3.cell 5 _ rfl
            have cx6 := x_3.cell 6 _ rfl
            have cx7 := x_3.cell 7 _ rfl
            have cx8 := x_3.cell 8 _ rfl
            have lx := x_3.lt
            have cy0 := y_3.cell 0 _ rfl
            have cy1 := y_3.cell 1 _ rfl
            have cy2 := y_3.cell 2 _ rfl
            have cy3 := y_3.cell 3 _ rfl
            have cy4 := y_3.cell 4 _ rfl
            have cy5 := y_3.cell 5 _ rfl
            have cy6 := y_3.cell 6 _ rfl
            have cy7 := y_3.cell 7 _ rfl
            have cy8 := y_3.cell 8 _ rfl
            have ly := y_3.lt
            clear x_3 y_3
            by_cases hx : x0 ∈ S
            · have HD : Hid (decide (x0 ∈ S) = true) := decide_eq_true hx
              clear X5
              go_wp2_with (at_lookup; refine lookB_wp rfl _ _ rfl bm S rfl (by exact qm3.out) x0 rfl hS ?_; rw [HD.out])
              go_roundw
              case rel => exact ⟨j + 1, by omega, by go_num, qm3.out, q3⟩
              case measure => simp [intOf]; omega
            · have HD : Hid (decide (x0 ∈ S) = false) := decide_eq_false hx
              obtain ⟨h1, h2⟩ := X5.out.resolve_left hx
              clear X5
              injection h2 with g0 g1 g2 g3 g4 g5 g6 g7 g8
              replace g0 := g0.symm; replace g1 := g1.symm; replace g2 := g2.symm; replace g3 := g3.symm; replace g4 := g4.symm; replace g5 := g5.symm; replace g6 := g6.symm; replace g7 := g7.symm; replace g8 := g8.symm
              subst h1 g0 g1 g2 g3 g4 g5 g6 g7 g8
              have fe := entB_same ⟨x0, x1, x2, x3, x4, x5, x6, x7, x8⟩
              go_wp2_with (at_lookup; refine lookB_wp rfl _ _ rfl bm S rfl (by exact qm3.out) x0 rfl hS ?_; rw [HD.out])
              go_roundw
              case rel => exact ⟨j + 1, by omega, by go_num, qm3.out, q3⟩
              case measure => simp [intOf]; omega
          · obtain rfl : j = n1 := by omega
            go_wp2_with fail
            refine (dl_alive _).mono ?_; rintro e w9 ⟨rfl, b9⟩
            have Q9 : Below H w w9 := (Q_5.trans ((q5.mono (Nat.le_of_lt (Nat.lt_of_succ_lt hbl))))).trans (b9.mono (Nat.le_trans (Nat.le_of_lt (Nat.lt_of_succ_lt hbl)) (by have := q5.size; rw [HM.out] at this; exact this)))
            go_wp2_with fail
            go_ret
            exact ⟨rfl, by rw [HH.out]; exact Q9⟩
  · -- one is
    go_wp2_with fail
    refine (dl_alive _).mono ?_; rintro e w9 ⟨rfl, b9⟩
    go_wp2_with fail
    go_ret
    exact ⟨rfl, by rw [HH.out]; exact bup Q_2 (Nat.le_of_eq HH.out.symm) b9⟩

set_option maxRecDepth 100000 in
theorem lifted (os : Os) (started : os.Started) (H : Type) (enc : TypeId × Value → H) :
    ReturnsInHanded {} Tryz.checked os 8 .any (Rows.deltaRecordsSpec.pre6 enc Tryz.prog Tryz.f8 Rows.deltaRecordsRow.domain false) (Rows.deltaRecordsSpec.post enc Tryz.prog Tryz.f8 false true false false) := by
  refine returnsInHanded_of_change (C := Tryz.checked) own started (by kernel_rfl) Tryz.func8
    (ChangeSpec.witness6 (enc := enc) (C := Tryz.checked) false ⟨#[], #[.agg #[.int .i64 0, .int .i64 0, .slice none 0 0], .agg #[.int .i64 0, .int .i64 0, .slice none 0 0]], []⟩ 8 (by kernel_rfl) (by kernel_rfl) (by kernel_rfl) (by kernel_rfl)) ?_
  intro W base args ds gs before hval0 hW hcnd _
  have hval : ∀ (j : Nat) t v, Tryz.f8.params[j]? = some t → args[j]? = some v → Value.okWide Tryz.prog W .any base t v := hval0
  have hW' := hW
  obtain ⟨p, q, hA0, hV, rfl, hfz, hnd⟩ := hW
  have hA : DataW.TrodAll enc Tryz.prog W 0 (fun _ => true) true Tryz.f8.params.toList args.toList ds p := hA0
  rw [Tryz.params8] at hA hval
  obtain ⟨v0, vs0, d0, ds0, p0, q0, hargs, rfl, rfl, h0, r0⟩ := trodAll_cons hA
  obtain ⟨v1, vs1, d1, ds1, p1, q1, rfl, rfl, rfl, h1, r1⟩ := trodAll_cons r0
  obtain ⟨rfl, rfl, rfl⟩ := trodAll_nil r1
  obtain rfl : args = #[v0, v1] := by cases args; simp_all
  obtain ⟨rfl, rfl⟩ := trodVars_none hV
  have hlt := hW'.lt
  have k0 := h0
  obtain ⟨t0, m0, u0, n0, A0, e0, st0, sm0, b0, rd0⟩ := open_snap (hval 0 24 v0 rfl rfl) h0
  subst e0
  have k1 := h1
  obtain ⟨t1, m1, u1, n1, A1, e1, st1, sm1, b1, rd1⟩ := open_snap (hval 1 24 v1 rfl rfl) h1
  subst e1
  clear hA0 hval0
  refine (walk W t0 m0 u0 n0 A0 st0 sm0 b0 rd0 t1 m1 u1 n1 A1 st1 sm1 b1 rd1).mono fun e W' ⟨he, hg⟩ => ?_
  subst he
  exact ⟨_, rfl, post_of_below hW' (fun _ _ _ => (trodAll_cons_mk (shut_bool Tryz.underlying4 _) trodAll_mk0)) (trodAll_cons_mk (Below.trod laidOut (by kernel_rfl) (of_decide_eq_true (by kernel_rfl)) k0 hg (fun x hx => by first | exact absurd hx (by simp) | exact hlt x (by simp [hx]))) (trodAll_cons_mk (Below.trod laidOut (by kernel_rfl) (of_decide_eq_true (by kernel_rfl)) k1 hg (fun x hx => by first | exact absurd hx (by simp) | exact hlt x (by simp [hx]))) trodAll_mk0)) rfl hg⟩

theorem over : Rows.deltaRecordsRow.holds Tryz.pinned (OpenSpec.ofChange Rows.deltaRecordsSpec) :=
  OpenClaim.holds_of_wide 8 Tryz.f8 rfl rfl rfl rfl rfl rfl rfl ⟨rfl, rfl, rfl, rfl, rfl⟩ rfl rfl rfl rfl rfl (by kernel_rfl) Tryz.func8 (by kernel_rfl)
    (of_decide_eq_true (by kernel_rfl)) (by unfold Func.isWrapper; first | (rw [if_pos (by decide +kernel)]; kernel_rfl) | (rw [if_neg (by decide +kernel)]; exact ⟨rfl, rfl⟩))
    (fun os started H enc _ => lifted os started H enc)
end DeltaRecordsL

theorem deltaRecords_proved : Rows.DeltaRecordsSaid := DeltaRecordsL.over
#print axioms deltaRecords_proved
end Go.Proofs.YtfoblmambbfphaaGreat
