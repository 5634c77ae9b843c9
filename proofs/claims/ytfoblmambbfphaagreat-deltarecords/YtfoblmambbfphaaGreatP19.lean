/-
  Texts Gm11, Gm12, Gm13, Gm14, Gm15, Gm16, Gm17, Dl1 in one.
-/
import Derived.Deep.DeepCutAuto
import Derived.Deep.CutBlock
import Derived.Deep.DrawnRows
import Derived.Deep.RegionHeldLaw
import Derived.Test.YtfoblmambbfphaaGreatP18
namespace Go.Proofs.YtfoblmambbfphaaGreat
open Go.RowKit
set_option linter.unusedVariables false
set_option maxRecDepth 20000

theorem uint_zero {m : Int} {s : St} (h : (uintS m s).e ≠ 0) : uintA m s = 0 := by
  unfold uintS at h
  unfold uintA
  by_cases h0 : s.e = 0
  · rw [if_pos h0] at h ⊢
    by_cases h1 : uintE m s.l = 0
    · rw [if_pos h1] at h; exact absurd rfl h
    · rw [if_neg h1]
  · rw [if_neg h0]
@[reducible] def stepsA (P : Nat) : Array Value := #[.func (.func 58) #[.pointer (some ⟨P, 0, none⟩)] #[], .func (.func 59) #[.pointer (some ⟨P, 0, none⟩)] #[], .func (.func 60) #[.pointer (some ⟨P, 0, none⟩)] #[], .func (.func 61) #[.pointer (some ⟨P, 0, none⟩)] #[], .func (.func 62) #[.pointer (some ⟨P, 0, none⟩)] #[], .func (.func 63) #[.pointer (some ⟨P, 0, none⟩)] #[], .func (.func 64) #[.pointer (some ⟨P, 0, none⟩)] #[]]
theorem ps_steps (w : World) (P : Nat) :
    Calls Tryz.prog 38 #[.pointer (some ⟨P, 0, none⟩)] w fun e w' => e = .returned (.agg (stepsA P)) ∧ Below w.heap.size w w' := by
  go_enter Tryz.func38, Tryz.ntmps38
  go_wp2_with fail
  generalize hW : w.alloc (.cells (stepsA P) 84) = W
  obtain ⟨RB, GB, _⟩ := boxed hW
  clear hW
  have q0 := RB.cell 0 _ rfl
  have q1 := RB.cell 1 _ rfl
  have q2 := RB.cell 2 _ rfl
  have q3 := RB.cell 3 _ rfl
  have q4 := RB.cell 4 _ rfl
  have q5 := RB.cell 5 _ rfl
  have q6 := RB.cell 6 _ rfl
  refine bodyPost_ret (v := .agg (stepsA P)) (by simp [results, Tryz.results38, go_sem, q0, q1, q2, q3, q4, q5, q6]) rfl ⟨rfl, GB⟩
theorem size_fn (w : World) : (sizeOf 1).run Tryz.prog w = .ok 1 w := by
  have h : (Tryz.prog.info? 1).map (fun i => i.size) = some 1 := by kernel_rfl
  cases hq : Tryz.prog.info? 1 with
  | none => simp [hq] at h
  | some i => simp [hq] at h; simp [sizeOf, typeInfo, hq, h]
theorem index7f (cs : Array Value) (k : Nat) (i : Int) (hi : i = (k : Int)) (x : Value) (hk : k < 7) (h : cs[k]? = some x) (w : World) : (Instr.index 84 (.agg cs) (.int .i64 i)).run Tryz.prog w = .ok x w := by
  subst hi
  have hlt : (0 : Int) ≤ (k : Int) ∧ (k : Int) < 7 := by omega
  simp only [Instr.index, Sem.run_bind, run_underlying Tryz.underlying84, Result.andThen_ok, asIntOf, Sem.run_pure]
  rw [if_pos (by exact hlt)]
  simp only [Sem.run_bind, size_fn, Result.andThen_ok, Int.toNat_natCast, Nat.mul_one, part, isAgg, run_underlying Tryz.underlying1, Sem.run_pure]
  simp [h]
theorem Blk.four {w : World} {b : Nat} {c0 c1 c2 c3 x0 x1 x2 x3 : Value} (h : Blk w b [c0, c1, c2, c3]) : Blk ((((w.setCell ⟨b, 0, none⟩ x0).setCell ⟨b, 1, none⟩ x1).setCell ⟨b, 2, none⟩ x2).setCell ⟨b, 3, none⟩ x3) b [x0, x1, x2, x3] :=
  (((h.set 0 x0 (by simp)).set 1 x1 (by simp)).set 2 x2 (by simp)).set 3 x3 (by simp)
theorem below_four {B : Nat} {a w : World} {b : Nat} {x0 x1 x2 x3 : Value} (h : Below B a w) (hb : B ≤ b) : Below B a ((((w.setCell ⟨b, 0, none⟩ x0).setCell ⟨b, 1, none⟩ x1).setCell ⟨b, 2, none⟩ x2).setCell ⟨b, 3, none⟩ x3) :=
  (((h.setCell (p := ⟨b, 0, none⟩) hb _).setCell (p := ⟨b, 1, none⟩) hb _).setCell (p := ⟨b, 2, none⟩) hb _).setCell (p := ⟨b, 3, none⟩) hb _
theorem ownR_four {B : Nat} {w : World} {b : Nat} {x0 x1 x2 x3 v : Value} {L : List Rc} (h : OwnR w B v L) (hb : b < B) : OwnR ((((w.setCell ⟨b, 0, none⟩ x0).setCell ⟨b, 1, none⟩ x1).setCell ⟨b, 2, none⟩ x2).setCell ⟨b, 3, none⟩ x3) B v L :=
  h.chUp (((((Ch.refl b w).set 0 _).set 1 _).set 2 _).set 3 _) hb

set_option maxHeartbeats 16000000 in
theorem gm_read (w : World) (v : Value) (l : List Int) (hb : Bytes l) (h : Rd w v l) (hlen : l.length ≤ 140737488355328) :
    Calls Tryz.prog 24 #[v] w fun e w' => ∃ u, e = .returned (.tuple #[gmV (rgG l) u, .int .i64 (rgE l)]) ∧ OwnR w' w.heap.size u (rgL l) ∧ Below w.heap.size w w' := by
  have HB : Hid (Bytes l) := hb
  have HRd : Hid (Rd w v l) := h
  have HL : Hid (l.length ≤ 140737488355328) := hlen
  have BO : Hid (Bytes (opened l)) := (by unfold opened; split; exact hb.take _; intro c hc; simp at hc : Bytes (opened l))
  have LO : Hid (4096 < l.length → rgE l = 8) := fun h => by unfold rgE; rw [if_pos h]
  have NO : Hid (¬ 4096 < l.length → openB l = false → rgE l = 9) := fun h h2 => by unfold rgE; rw [if_neg h, if_neg (by rw [h2]; simp)]
  have YE : Hid (¬ 4096 < l.length → openB l = true → rgE l = doneA (rF (opened l)).1) := fun h h2 => by unfold rgE; rw [if_neg h, if_pos h2]; rfl
  have ZE : Hid (rgE l ≠ 0 → rgG l = ⟨0, 0, 0⟩ ∧ rgL l = []) := fun h => ⟨by unfold rgG; rw [if_neg h], by unfold rgL; rw [if_neg h]⟩
  have GO : Hid (rgE l = 0 → rgG l = ⟨rT (opened l), rM (opened l), rP (opened l)⟩ ∧ rgL l = (rF (opened l)).2) := fun h => ⟨by unfold rgG; rw [if_pos h], by unfold rgL; rw [if_pos h]⟩
  obtain ⟨E, hE⟩ : ∃ x, rgE l = x := ⟨_, rfl⟩
  obtain ⟨G, hG⟩ : ∃ x, rgG l = x := ⟨_, rfl⟩
  obtain ⟨L, hL⟩ : ∃ x, rgL l = x := ⟨_, rfl⟩
  obtain ⟨q, hq⟩ : ∃ x, openB l = x := ⟨_, rfl⟩
  obtain ⟨ol, hol⟩ : ∃ x, opened l = x := ⟨_, rfl⟩
  obtain ⟨N, hN⟩ : ∃ x, l.length = x := ⟨_, rfl⟩
  have OP : Hid (∀ w', Rd w' v l → Calls Tryz.prog 36 #[v] w' fun e w'' => ∃ u, e = .returned (.tuple #[u, .bool q]) ∧ Own w'' w'.heap.size u ol ∧ Below w'.heap.size w' w'') := fun w' h' => by rw [← hq, ← hol]; exact open_any w' v l HB.out h' HL.out
  rw [hN, hE] at LO
  rw [hN, hq, hE] at NO
  rw [hN, hq, hol, hE] at YE
  rw [hE, hG, hL] at ZE
  rw [hE, hol, hG, hL] at GO
  rw [hol] at BO
  rw [hE, hG, hL]
  obtain ⟨ao, cap, rfl, hc, hm, _⟩ := h
  rw [hN] at hc HRd OP ⊢
  clear hE hG hL hq hol hN hlen hb HB HL
  by_cases hlong : 4096 < N
  · have e8 := LO.out hlong
    obtain ⟨z1, z2⟩ := ZE.out (by rw [e8]; decide)
    subst e8 z1 z2
    clear LO NO YE ZE GO OP
    go_enter Tryz.func24, Tryz.ntmps24
    go_wp2_with fail
    generalize hW : w.alloc (.cells #[.int .i64 0, .int .i64 0, .int .i64 0, .slice none 0 0] 29) = W
    obtain ⟨RB, GB, _⟩ := boxed hW
    clear hW
    have q0 := RB.cell 0 _ rfl
    have q1 := RB.cell 1 _ rfl
    have q2 := RB.cell 2 _ rfl
    have q3 := RB.cell 3 _ rfl
    refine bodyPost_ret (v := .tuple #[gmV ⟨0, 0, 0⟩ (.slice none 0 0), .int .i64 8]) (by simp [results, Tryz.results24, go_sem, q0, q1, q2, q3]) rfl ⟨_, rfl, OwnR.nil _ _, GB⟩
  have EQ0 := NO.out hlong
  have EQ1 := YE.out hlong
  have NO' : Hid (q = false → E = 9) := EQ0
  have YE' : Hid (q = true → E = doneA (rF ol).1) := EQ1
  clear LO NO YE EQ0 EQ1
  go_enter Tryz.func24, Tryz.ntmps24
  go_wp2_with fail
  generalize hW : w.alloc (.cells #[.int .i64 0, .int .i64 0, .int .i64 0, .slice none 0 0] 29) = W
  obtain ⟨Aa, Ba, _⟩ := boxed hW
  obtain ⟨H, hH⟩ : ∃ H, w.heap.size = H := ⟨_, rfl⟩
  have HH : Hid (w.heap.size = H) := hH
  rw [hH] at Aa Ba
  rw [hH]
  have hle : H ≤ w.heap.size := by omega
  clear hW
  refine (OP.out _ (HRd.out.below (by rw [hH]; exact Ba))).mono ?_; rintro e w1 ⟨u1, rfl, own1, b1⟩
  have Ab := Aa.below b1 Aa.lt
  have Bb := bup Ba hle b1
  have RD : Hid (Rd w1 u1 ol) := own1.rd
  have c0 := Ab.cell 0 _ rfl
  have c1 := Ab.cell 1 _ rfl
  have c2 := Ab.cell 2 _ rfl
  have c3 := Ab.cell 3 _ rfl
  have f0 := Ab.froz 0
  have f1 := Ab.froz 1
  have f2 := Ab.froz 2
  have f3 := Ab.froz 3
  have la := Ab.lt
  clear own1 b1 Aa Ba OP HRd hH
  cases q
  · have e9 := NO'.out rfl
    obtain ⟨z1, z2⟩ := ZE.out (by rw [e9]; decide)
    subst e9 z1 z2
    clear NO' YE' ZE GO
    go_wp2_with fail
    have RB := Blk.four (x0 := .int .i64 0) (x1 := .int .i64 0) (x2 := .int .i64 0) (x3 := .slice none 0 0) Ab
    have GB := below_four (x0 := .int .i64 0) (x1 := .int .i64 0) (x2 := .int .i64 0) (x3 := .slice none 0 0) Bb (Nat.le_refl H)
    generalize (((w1.setCell ⟨H, 0, none⟩ (.int .i64 0)).setCell ⟨H, 1, none⟩ (.int .i64 0)).setCell ⟨H, 2, none⟩ (.int .i64 0)).setCell ⟨H, 3, none⟩ (.slice none 0 0) = W9 at RB GB ⊢
    have q0 := RB.cell 0 _ rfl
    have q1 := RB.cell 1 _ rfl
    have q2 := RB.cell 2 _ rfl
    have q3 := RB.cell 3 _ rfl
    refine bodyPost_ret (v := .tuple #[gmV ⟨0, 0, 0⟩ (.slice none 0 0), .int .i64 9]) (by simp [results, Tryz.results24, go_sem, q0, q1, q2, q3]) rfl ⟨_, rfl, OwnR.nil _ _, by first | exact GB | (rw [HH.out]; exact GB)⟩
  have EE : Hid (E = doneA (rF ol).1) := YE'.out rfl
  clear NO' YE'
  go_wp2_with fail
  refine (new_any _ u1 ol BO.out RD.out).mono ?_; rintro e w2 ⟨rfl, r2, b2, z2⟩
  have Ac := Ab.below b2 Ab.lt
  have Bc := bup Bb hle b2
  obtain ⟨R, hR⟩ : ∃ R, w1.heap.size = R := ⟨_, rfl⟩
  rw [hR] at r2 z2 la
  rw [hR]
  have RR : Hid (Rdr w2 R R ⟨ol, 0, 0⟩) := r2
  have Z2 : Hid (w2.heap.size = R + 1) := z2
  clear z2 r2 b2 hR RD BO c0 c1 c2 c3 f0 f1 f2 f3 Ab Bb
  go_wp2_with fail
  generalize hV : w2.alloc (.cells #[.pointer (some ⟨R, 0, none⟩), .int .i64 0, .int .i64 0, .int .i64 0, .slice none 0 0, .int .i64 0] 83) = W3'
  obtain ⟨Pa, b3, _⟩ := boxed hV
  have Ad := Ac.below b3 Ac.lt
  have Bd := bup Bc hle b3
  have Ra : Hid (Rdr W3' R R ⟨ol, 0, 0⟩) := RR.out.below b3 RR.out.lt
  have z2 := Z2.out
  obtain ⟨P, hP⟩ : ∃ P, w2.heap.size = P := ⟨_, rfl⟩
  rw [hP] at Pa z2
  rw [hP]
  have hRP : R < P := by omega
  clear z2 Z2 hV b3 hP RR Ac Bc
  refine (ps_steps _ P).mono ?_; rintro e W0 ⟨rfl, b4⟩
  have A0 := Ad.below b4 Ad.lt
  have B0 := bup Bd hle b4
  have P0 : Blk W0 P (psC R 0 0 0 (.slice none 0 0) 0) := Pa.below b4 Pa.lt
  have R0 : Hid (Rdr W0 R R ⟨ol, 0, 0⟩) := Ra.out.below b4 Ra.out.lt
  have nb := rN_bd ol
  obtain ⟨c, hcc⟩ : ∃ c : Nat, rN ol = c := ⟨(rN ol).toNat, by omega⟩
  have CN : Hid (rN ol = (c : Int)) := hcc
  have c128 : c ≤ 128 := by omega
  have CF : Hid (rF ol = rowS (rQ ol) c) := (by unfold rF; rw [hcc, Int.toNat_natCast] : rF ol = rowS (rQ ol) c)
  have CS : Hid (c ≠ 0 → (rQ ol).e = 0) := fun hne => by
    by_cases he : (rQ ol).e = 0
    · exact he
    · have := uint_zero (m := 128) (s := rD ol) he
      have e2 : rN ol = 0 := this
      omega
  clear hcc nb Ad Bd Pa Ra b4
  go_wp2_with fail
  refine wp_loop_rounds 8 ?_
  have ix0 := index7f (stepsA P) 0 0 rfl (.func (.func 58) #[.pointer (some ⟨P, 0, none⟩)] #[]) (by omega) rfl W0
  rw [rounds_succ]
  go_wp2_with fail
  clear ix0
  refine (ps_mark _ R R P _ 0 0 0 0 _ R0.out P0 hRP).mono ?_; rintro e W1 ⟨rfl, rr, pp, kk⟩
  have R1 : Hid (Rdr W1 R R (sameS 71 ⟨ol, 0, 0⟩)) := rr
  have P1 : Blk W1 P (psC R 0 0 0 (.slice none 0 0) 0) := pp
  have A1 := A0.below kk.below (by omega)
  have B1 : Below H w W1 := B0.trans (kk.below.mono (by omega))
  clear A0 B0 R0 P0 kk rr pp
  go_wp2_with fail
  have ix1 := index7f (stepsA P) 1 1 rfl (.func (.func 59) #[.pointer (some ⟨P, 0, none⟩)] #[]) (by omega) rfl W1
  rw [rounds_succ]
  go_wp2_with fail
  clear ix1
  refine (ps_version _ R R P _ 0 0 0 0 _ R1.out P1 hRP).mono ?_; rintro e W2 ⟨rfl, rr, pp, kk⟩
  have R2 : Hid (Rdr W2 R R (rA ol)) := rr
  have P2 : Blk W2 P (psC R 0 0 0 (.slice none 0 0) 0) := pp
  have A2 := A1.below kk.below (by omega)
  have B2 : Below H w W2 := B1.trans (kk.below.mono (by omega))
  clear A1 B1 R1 P1 kk rr pp
  go_wp2_with fail
  have ix2 := index7f (stepsA P) 2 2 rfl (.func (.func 60) #[.pointer (some ⟨P, 0, none⟩)] #[]) (by omega) rfl W2
  rw [rounds_succ]
  go_wp2_with fail
  clear ix2
  refine (ps_tick _ R R P _ 0 0 0 0 _ R2.out P2 hRP).mono ?_; rintro e W3 ⟨rfl, rr, pp, kk⟩
  have R3 : Hid (Rdr W3 R R (rB ol)) := rr
  have P3 : Blk W3 P (psC R (rT ol) 0 0 (.slice none 0 0) 0) := pp
  have A3 := A2.below kk.below (by omega)
  have B3 : Below H w W3 := B2.trans (kk.below.mono (by omega))
  clear A2 B2 R2 P2 kk rr pp
  go_wp2_with fail
  have ix3 := index7f (stepsA P) 3 3 rfl (.func (.func 61) #[.pointer (some ⟨P, 0, none⟩)] #[]) (by omega) rfl W3
  rw [rounds_succ]
  go_wp2_with fail
  clear ix3
  refine (ps_time _ R R P _ (rT ol) 0 0 0 _ R3.out P3 hRP).mono ?_; rintro e W4 ⟨rfl, rr, pp, kk⟩
  have R4 : Hid (Rdr W4 R R (rC ol)) := rr
  have P4 : Blk W4 P (psC R (rT ol) (rM ol) 0 (.slice none 0 0) 0) := pp
  have A4 := A3.below kk.below (by omega)
  have B4 : Below H w W4 := B3.trans (kk.below.mono (by omega))
  clear A3 B3 R3 P3 kk rr pp
  go_wp2_with fail
  have ix4 := index7f (stepsA P) 4 4 rfl (.func (.func 62) #[.pointer (some ⟨P, 0, none⟩)] #[]) (by omega) rfl W4
  rw [rounds_succ]
  go_wp2_with fail
  clear ix4
  refine (ps_base _ R R P _ (rT ol) (rM ol) 0 0 _ R4.out P4 hRP (rT_bd ol).1 (rT_bd ol).2).mono ?_; rintro e W5 ⟨rfl, rr, pp, kk⟩
  have R5 : Hid (Rdr W5 R R (rD ol)) := rr
  have P5 : Blk W5 P (psC R (rT ol) (rM ol) (rP ol) (.slice none 0 0) 0) := pp
  have A5 := A4.below kk.below (by omega)
  have B5 : Below H w W5 := B4.trans (kk.below.mono (by omega))
  clear A4 B4 R4 P4 kk rr pp
  go_wp2_with fail
  have ix5 := index7f (stepsA P) 5 5 rfl (.func (.func 63) #[.pointer (some ⟨P, 0, none⟩)] #[]) (by omega) rfl W5
  rw [rounds_succ]
  go_wp2_with fail
  clear ix5
  refine (ps_size _ R R P _ (rT ol) (rM ol) (rP ol) 0 _ R5.out P5 hRP).mono ?_; rintro e W6 ⟨rfl, rr, pp, kk⟩
  have R6 : Hid (Rdr W6 R R (rQ ol)) := rr
  have P6 : Blk W6 P (psC R (rT ol) (rM ol) (rP ol) (.slice none 0 0) (rN ol)) := pp
  have A6 := A5.below kk.below (by omega)
  have B6 : Below H w W6 := B5.trans (kk.below.mono (by omega))
  clear A5 B5 R5 P5 kk rr pp
  rw [CN.out] at P6
  go_wp2_with fail
  have ix6 := index7f (stepsA P) 6 6 rfl (.func (.func 64) #[.pointer (some ⟨P, 0, none⟩)] #[]) (by omega) rfl W6
  rw [rounds_succ]
  go_wp2_with fail
  clear ix6
  refine (ps_records _ R R P _ (rT ol) (rM ol) (rP ol) c R6.out P6 hRP c128 CS.out).mono ?_; rintro e W7 ⟨rfl, rr, ⟨vv, pp, oo⟩, kk⟩
  have R7 : Hid (Rdr W7 R R (rF ol).1) := by rw [CF.out]; exact rr
  have O7 : Hid (OwnR W7 (P + 1) vv (rF ol).2) := by rw [CF.out]; exact oo
  obtain ⟨ao7, cap7, e7⟩ := oo.form
  have A7 := A6.below kk (by omega)
  have B7 : Below H w W7 := B6.trans (kk.mono (by omega))
  clear A6 B6 R6 P6 kk rr oo
  go_wp2_with fail
  subst e7
  have x0 := pp.cell 0 _ rfl
  have x1 := pp.cell 1 _ rfl
  have x2 := pp.cell 2 _ rfl
  have x3 := pp.cell 3 _ rfl
  have x4 := pp.cell 4 _ rfl
  have lp := pp.lt
  have c0 := A7.cell 0 _ rfl
  have c1 := A7.cell 1 _ rfl
  have c2 := A7.cell 2 _ rfl
  have c3 := A7.cell 3 _ rfl
  have f0 := A7.froz 0
  have f1 := A7.froz 1
  have f2 := A7.froz 2
  have f3 := A7.froz 3
  have la7 := A7.lt
  rw [rounds_succ]
  go_wp2_with fail
  refine (done_any _ R R _ R7.out).mono ?_; rintro e W8 ⟨rfl, rfl⟩
  rw [← EE.out]
  by_cases hz : E = 0
  · obtain ⟨z1, z3⟩ := GO.out hz
    subst hz z1
    have ZL : Hid (L = (rF ol).2) := z3
    clear GO ZE EE z3 CF CS CN
    obtain ⟨nn, hnn⟩ : ∃ n, (rowS (rQ ol) c).2.length = n := ⟨_, rfl⟩
    rw [hnn] at x4 O7 pp
    clear hnn
    go_wp2_with fail
    have RB := Blk.four (x0 := .int .i64 (rT ol)) (x1 := .int .i64 (rM ol)) (x2 := .int .i64 (rP ol)) (x3 := .slice ao7 nn cap7) A7
    have GB := below_four (x0 := .int .i64 (rT ol)) (x1 := .int .i64 (rM ol)) (x2 := .int .i64 (rP ol)) (x3 := .slice ao7 nn cap7) B7 (Nat.le_refl H)
    have OB : Hid (OwnR ((((W8.setCell ⟨H, 0, none⟩ (.int .i64 (rT ol))).setCell ⟨H, 1, none⟩ (.int .i64 (rM ol))).setCell ⟨H, 2, none⟩ (.int .i64 (rP ol))).setCell ⟨H, 3, none⟩ (.slice ao7 nn cap7)) (P + 1) (.slice ao7 nn cap7) (rF ol).2) := ownR_four O7.out (by omega)
    generalize (((W8.setCell ⟨H, 0, none⟩ (.int .i64 (rT ol))).setCell ⟨H, 1, none⟩ (.int .i64 (rM ol))).setCell ⟨H, 2, none⟩ (.int .i64 (rP ol))).setCell ⟨H, 3, none⟩ (.slice ao7 nn cap7) = W9 at RB GB OB ⊢
    have q0 := RB.cell 0 _ rfl
    have q1 := RB.cell 1 _ rfl
    have q2 := RB.cell 2 _ rfl
    have q3 := RB.cell 3 _ rfl
    refine bodyPost_ret (v := .tuple #[gmV ⟨rT ol, rM ol, rP ol⟩ (.slice ao7 nn cap7), .int .i64 0]) (by simp [results, Tryz.results24, go_sem, q0, q1, q2, q3]) rfl ⟨_, rfl, by rw [ZL.out, HH.out]; exact OB.out.mono (by omega), by first | exact GB | (rw [HH.out]; exact GB)⟩
  · obtain ⟨z1, z3⟩ := ZE.out hz
    have heq : (E == 0) = false := by simp [hz]
    subst z1 z3
    clear GO ZE EE CF CS CN x0 x1 x2 x3 x4
    go_wp2_with fail
    have RB := Blk.four (x0 := .int .i64 0) (x1 := .int .i64 0) (x2 := .int .i64 0) (x3 := .slice none 0 0) A7
    have GB := below_four (x0 := .int .i64 0) (x1 := .int .i64 0) (x2 := .int .i64 0) (x3 := .slice none 0 0) B7 (Nat.le_refl H)
    generalize (((W8.setCell ⟨H, 0, none⟩ (.int .i64 0)).setCell ⟨H, 1, none⟩ (.int .i64 0)).setCell ⟨H, 2, none⟩ (.int .i64 0)).setCell ⟨H, 3, none⟩ (.slice none 0 0) = W9 at RB GB ⊢
    have q0 := RB.cell 0 _ rfl
    have q1 := RB.cell 1 _ rfl
    have q2 := RB.cell 2 _ rfl
    have q3 := RB.cell 3 _ rfl
    refine bodyPost_ret (v := .tuple #[gmV ⟨0, 0, 0⟩ (.slice none 0 0), .int .i64 E]) (by simp [results, Tryz.results24, go_sem, q0, q1, q2, q3]) rfl ⟨_, rfl, OwnR.nil _ _, by first | exact GB | (rw [HH.out]; exact GB)⟩
end Go.Proofs.YtfoblmambbfphaaGreat

namespace Go.Proofs.YtfoblmambbfphaaGreat
open Go.RowKit
set_option linter.unusedVariables false

theorem chain_mem : ∀ (L : List Rc) (last : Int), chainR last L → ∀ r ∈ L, r.ok
  | [], _, _, r, h => absurd h (by simp)
  | x :: L, last, ⟨h1, _, h3⟩, r, h => by
    rcases List.mem_cons.1 h with e | e
    · rw [e]; exact h1
    · exact chain_mem L x.i h3 r e
theorem chain_at {L : List Rc} {last : Int} (h : chainR last L) : ∀ i, i < L.length → (L.getD i noRec).ok := by
  intro i hi
  refine chain_mem L last h _ ?_
  have : L.getD i noRec = L[i] := by simp [List.getD, hi]
  rw [this]
  exact List.getElem_mem hi
theorem op_opened {x : List Int} (h : openB x = true) : 4 ≤ x.length ∧ (opened x).length + 4 = x.length ∧ sealed (opened x) = x := by
  have h4 : 4 ≤ x.length := by
    by_cases hf : x.length < 4
    · rw [open_few hf] at h; exact absurd h (by simp)
    · omega
  have e := opened_yes (m := x.length - 4) (by omega) h
  refine ⟨h4, by rw [e, List.length_take]; omega, ?_⟩
  rw [e]
  exact (open_app (by omega)).1 h
/-- A datagram that is read may be, and is written as those bytes. -/
theorem one_gram {x : List Int} (hb : Bytes x) (h : rgE x = 0) :
    (rgG x).ok ∧ (∀ i, i < (rgL x).length → ((rgL x).getD i noRec).ok) ∧ gmE (rgG x) (fun i => (rgL x).getD i noRec) (rgL x).length = 0 ∧ wrtE (rgG x) (fun i => (rgL x).getD i noRec) (rgL x).length = 0 ∧ wrtB (rgG x) (fun i => (rgL x).getD i noRec) (rgL x).length = x := by
  obtain ⟨h1, h2, h3⟩ := rgE_zero h
  have eG : rgG x = ⟨rT (opened x), rM (opened x), rP (opened x)⟩ := by unfold rgG; rw [if_pos h]
  have eL : rgL x = (rF (opened x)).2 := by unfold rgL; rw [if_pos h]
  have hbo : Bytes (opened x) := by unfold opened; rw [if_pos h2]; exact hb.take _
  obtain ⟨o1, o2, o3⟩ := op_opened h2
  obtain ⟨e1, e2, e3⟩ := op_one hbo h3
  rw [← eG, ← eL] at e1 e2
  rw [← eL] at e3
  have ho := hed_ok e2
  have gb : gmB (rgG x) (fun i => (rgL x).getD i noRec) (rgL x).length = opened x := by
    unfold gmB
    rw [pre_getD]
    exact e1.symm
  have ge : gmE (rgG x) (fun i => (rgL x).getD i noRec) (rgL x).length = 0 := by
    unfold gmE
    rw [if_pos e2, pre_getD]
    exact fir_chain _ _ e3
  have we : wrtE (rgG x) (fun i => (rgL x).getD i noRec) (rgL x).length = 0 := by
    unfold wrtE
    rw [if_pos ge, gb, if_neg (by omega)]
  refine ⟨⟨by unfold S64; omega, by unfold S64; omega, by unfold S64; omega⟩, chain_at e3, ge, we, ?_⟩
  unfold wrtB
  rw [if_pos we, gb, o3]
/-- What is written is read. -/
theorem back_gram {g : Gm} {A : Nat → Rc} {n : Nat} (ok : ∀ i, i < n → (A i).ok) (h : wrtE g A n = 0) :
    rgE (wrtB g A n) = 0 ∧ rgG (wrtB g A n) = g ∧ rgL (wrtB g A n) = pre A n ∧ (wrtB g A n).length = (gmB g A n).length + 4 ∧ wrtB g A n = sealed (gmB g A n) ∧ 6 ≤ (gmB g A n).length := by
  obtain ⟨h1, h2⟩ := wrt_ok h
  have h3 := gm_head h1
  have hc := gm_chain ok h1
  have e : wrtB g A n = sealed (gmB g A n) := by unfold wrtB; rw [if_pos h]
  have eo : opened (wrtB g A n) = gmB g A n := by rw [e]; exact sealed_opened _
  have ob : openB (wrtB g A n) = true := by rw [e]; exact sealed_open _
  have el : (wrtB g A n).length = (gmB g A n).length + 4 := by rw [e]; exact sealed_len _
  have hL : (pre A n).length = n := pre_len A n
  have b := op_back (g := g) (L := pre A n) (by rw [hL]; exact h3) hc
  rw [hL] at b
  have eg : hedB g n ++ encR (-1) (pre A n) = gmB g A n := rfl
  rw [eg] at b
  obtain ⟨b1, b2, b3, b4, b5⟩ := b
  have re : rgE (wrtB g A n) = 0 := by
    unfold rgE
    rw [if_neg (by omega), if_pos ob, eo]
    exact b1
  refine ⟨re, ?_, ?_, el, e, ?_⟩
  · unfold rgG
    rw [if_pos re, eo, b2, b3, b4]
  · unfold rgL
    rw [if_pos re, eo, b5]
  · have p1 := put_pos g.t
    have p2 := put_pos (zig g.m)
    have p3 := put_pos (bkI g)
    have p4 := put_pos (n : Int)
    unfold gmB hedB
    simp only [List.length_append, List.length_cons, List.length_nil]
    omega
/-- Without its last byte it isn't. -/
theorem cut_gram {g : Gm} {A : Nat → Rc} {n : Nat} (ok : ∀ i, i < n → (A i).ok) (h : wrtE g A n = 0) : rgE ((wrtB g A n).take ((wrtB g A n).length - 1)) ≠ 0 := by
  intro hz
  obtain ⟨b1, _, _, el, es, e6⟩ := back_gram ok h
  obtain ⟨h1, h2⟩ := wrt_ok h
  have hb := (gmB_ok ok h1).1
  obtain ⟨z1, z2, z3⟩ := rgE_zero hz
  obtain ⟨y1, y2, y3⟩ := rgE_zero b1
  have eo : opened (wrtB g A n) = gmB g A n := by rw [es]; exact sealed_opened _
  rw [eo] at y3
  obtain ⟨M, hM⟩ : ∃ M, (gmB g A n).length = M + 1 := ⟨(gmB g A n).length - 1, by omega⟩
  have lt : ((wrtB g A n).take ((wrtB g A n).length - 1)).length = M + 4 := by rw [List.length_take]; omega
  have ec : opened ((wrtB g A n).take ((wrtB g A n).length - 1)) = (gmB g A n).take M := by
    rw [opened_yes lt z2, List.take_take, es]
    unfold sealed
    rw [List.take_append_of_le_length (by rw [List.length_append] ; simp [four] at * ; omega)]
    congr 1
    rw [List.length_append]
    simp [four]
    omega
  rw [ec] at z3
  have split : gmB g A n = (gmB g A n).take M ++ [(gmB g A n).getD M 0] := by
    have := own_split (gmB g A n) M (by omega)
    have d : (gmB g A n).drop (M + 1) = [] := List.drop_eq_nil_of_le (by omega)
    rw [d] at this
    exact this
  have := op_less (c := (gmB g A n).getD M 0) (hb.take M) z3
  rw [← split, y3] at this
  omega
/-- With a byte turned it isn't opened. -/
theorem turned_gram {g : Gm} {A : Nat → Rc} {n : Nat} (ok : ∀ i, i < n → (A i).ok) (h : wrtE g A n = 0) {j : Nat} (hj : j < (wrtB g A n).length) {x : Int} (hx : 0 ≤ x ∧ x ≤ 255) (hne : x ≠ (wrtB g A n).getD j 0) : rgE ((wrtB g A n).set j x) = 9 := by
  obtain ⟨b1, _, _, el, es, e6⟩ := back_gram ok h
  obtain ⟨h1, h2⟩ := wrt_ok h
  have hb := (gmB_ok ok h1).1
  have t := turned_no hb (j := j) (by omega) hx (by rw [← es]; exact hne)
  unfold rgE
  rw [if_neg (by rw [List.length_set]; omega), es, t]
  simp
end Go.Proofs.YtfoblmambbfphaaGreat

namespace Go.Proofs.YtfoblmambbfphaaGreat
open Go.RowKit
set_option linter.unusedVariables false
set_option maxRecDepth 8000
attribute [local go_sem ↓] eqR_run

theorem below_drewN {B : Nat} {a w : World} (h : Below B a w) (N : Nat) : Below B a (w.drewN N) := ⟨h.os, h.tape, h.output, h.size, h.block⟩
theorem RdR.drewN {w : World} {v : Value} {n : Nat} {A : Nat → Rc} (h : RdR w v n A) (N : Nat) : RdR (w.drewN N) v n A := h
theorem rdR_at {w : World} {ao : Option Addr} {n cap : Nat} {A : Nat → Rc} (h : RdR w (.slice ao n cap) n A) {k : Nat} (hk : k < n) : ∃ b o, ao = some ⟨b, o, none⟩ ∧ b < w.heap.size ∧ ∀ j x, (recC (A k))[j]? = some x → w.cell? ⟨b, o + k * 9 + j, none⟩ = some x := by
  obtain ⟨ao', cap', e, _, _, h3⟩ := h
  injection e with e1 e2 e3
  subst e1 e3
  obtain ⟨b', o, rfl, hcell⟩ := h3.resolve_left (by omega)
  exact ⟨b', o, rfl, World.block_lt_of_cell? w _ (hcell k hk 0 _ rfl), hcell k hk⟩
set_option maxHeartbeats 4000000 in
theorem dg_same (w : World) (g : Gm) (v v' : Value) (n : Nat) (A : Nat → Rc) (hv : RdR w v n A) (hv' : RdR w v' n A) :
    Calls Tryz.prog 17 #[gmV g v, gmV g v'] w fun e w' => e = .returned (.bool true) ∧ Below w.heap.size w w' := by
  have HR : Hid (RdR w v n A) := hv
  have HR2 : Hid (RdR w v' n A) := hv'
  obtain ⟨ao, cap, rfl, hc, hm, _⟩ := hv
  obtain ⟨ao2, cap2, rfl, hc2, hm2, _⟩ := hv'
  obtain ⟨t, m, b⟩ := g
  go_enter Tryz.func17, Tryz.ntmps17
  go_wp2_with fail
  generalize hW : (w.alloc (.cells #[.int .i64 t, .int .i64 m, .int .i64 b, .slice ao n cap] 29)).alloc (.cells #[.int .i64 t, .int .i64 m, .int .i64 b, .slice ao2 n cap2] 29) = W
  obtain ⟨A0, A1, b0⟩ := boxed2 hW
  clear hW
  have R0 : Hid (RdR W (.slice ao n cap) n A) := HR.out.below b0
  have R1 : Hid (RdR W (.slice ao2 n cap2) n A) := HR2.out.below b0
  obtain ⟨H, hH⟩ : ∃ H, w.heap.size = H := ⟨_, rfl⟩
  have HH : Hid (w.heap.size = H) := hH
  rw [hH] at A0 A1 b0
  rw [hH]
  clear hH HR HR2
  go_loopw [5] (fun i wr => ∃ k : Nat, k ≤ n ∧ i = .int .i64 k ∧ Blk wr H [.int .i64 t, .int .i64 m, .int .i64 b, .slice ao n cap] ∧ Blk wr (H + 1) [.int .i64 t, .int .i64 m, .int .i64 b, .slice ao2 n cap2] ∧ RdR wr (.slice ao n cap) n A ∧ RdR wr (.slice ao2 n cap2) n A ∧ Below H w wr) (fun i _ => n - (intOf i).toNat)
  case atStart => exact ⟨0, by omega, rfl, A0, A1, R0.out, R1.out, b0⟩
  case round =>
    obtain ⟨k, hk, rfl, q1, q2, q3, q4, q5⟩ := hrel
    have Q3 : Hid (RdR wr (.slice ao n cap) n A) := q3
    have Q4 : Hid (RdR wr (.slice ao2 n cap2) n A) := q4
    have y3 := q1.cell 3 _ rfl
    have z3 := q2.cell 3 _ rfl
    have ly := q1.lt
    have lz := q2.lt
    by_cases hlt : k < n
    · obtain ⟨g1, o1, e1, l1, c1⟩ := rdR_at q3 hlt
      obtain ⟨g2, o2, e2, l2, c2⟩ := rdR_at q4 hlt
      clear q3 q4
      obtain ⟨r, hr⟩ : ∃ r, A k = r := ⟨_, rfl⟩
      rw [hr] at c1 c2
      clear hr
      subst e1 e2
      have eq : recB r r = true := recB_same r
      obtain ⟨r0, r1, r2, r3, r4, r5, r6, r7, r8⟩ := r
      have x0 := c1 0 _ rfl
      have x1 := c1 1 _ rfl
      have x2 := c1 2 _ rfl
      have x3 := c1 3 _ rfl
      have x4 := c1 4 _ rfl
      have x5 := c1 5 _ rfl
      have x6 := c1 6 _ rfl
      have x7 := c1 7 _ rfl
      have x8 := c1 8 _ rfl
      have u0 := c2 0 _ rfl
      have u1 := c2 1 _ rfl
      have u2 := c2 2 _ rfl
      have u3 := c2 3 _ rfl
      have u4 := c2 4 _ rfl
      have u5 := c2 5 _ rfl
      have u6 := c2 6 _ rfl
      have u7 := c2 7 _ rfl
      have u8 := c2 8 _ rfl
      simp only [Nat.add_zero] at x0 u0
      clear c1 c2
      go_wp2_with fail
      go_quiet (fail)
      go_wp2_with fail
      go_roundw
      case rel => exact ⟨k + 1, by omega, by go_num, q1.drewN _, q2.drewN _, Q3.out, Q4.out, below_drewN q5 _⟩
      case measure => simp [intOf]; omega
    · obtain rfl : k = n := by omega
      clear q3 q4
      go_wp2_with fail
      go_ret
      exact ⟨rfl, HH.out ▸ q5⟩
end Go.Proofs.YtfoblmambbfphaaGreat

namespace Go.Proofs.YtfoblmambbfphaaGreat
open Go.RowKit
set_option linter.unusedVariables false
set_option maxRecDepth 20000

theorem growR_wp {w : World} {ops : Array Oper} {rest : List Oper} {o : Oper} {a : Act} {Q : Exit → Act → World → Prop} (hgd : o.guard = none) (s x : Operand)
    (ho : o.op = .call { callee := .builtin .append, args := #[s, x], argTypes := #[27, 27] })
    (B : Nat) (v : Value) (L : List Rc) (hs : a.eval s = v) (hown : OwnR w B v L) (g0 : Nat) (r : Rc) (hx : a.eval x = .slice (some ⟨g0, 0, none⟩) 1 1)
    (hr : ∀ j u, (recC r)[j]? = some u → w.cell? ⟨g0, j, none⟩ = some u) (hlen : L.length ≤ 1000000) (hB : B ≤ w.heap.size)
    (h : ∀ v' w', OwnR w' B v' (L ++ [r]) → Grow B v w v' w' → wpList Tryz.prog ops Q rest (a.put o.dst v') w') : wpList Tryz.prog ops Q (o :: rest) a w :=
  wpList_plain hgd fun K hK => growR_op s x ho B v L hs hown g0 r hx hr hlen hB fun v' w' h1 h2 => hK _ _ (h v' w' h1 h2)
theorem rdr_e {w : World} {K R : Nat} {s : St} (h : Rdr w K R s) : w.cell? ⟨R, 2, none⟩ = some (.int .i64 s.e) := by obtain ⟨v, h⟩ := h; exact h.c2
end Go.Proofs.YtfoblmambbfphaaGreat

namespace Go.Proofs.YtfoblmambbfphaaGreat
open Go.RowKit
set_option linter.unusedVariables false

theorem rdR_congr {w : World} {v : Value} {n : Nat} {A A' : Nat → Rc} (h : RdR w v n A) (e : ∀ i, i < n → A i = A' i) : RdR w v n A' := by
  obtain ⟨ao, cap, e0, h1, h2, h3⟩ := h
  refine ⟨ao, cap, e0, h1, h2, ?_⟩
  rcases h3 with h | ⟨b, o, hb, hc⟩
  · exact Or.inl h
  · exact Or.inr ⟨b, o, hb, fun i hi j x hx => hc i hi j x (by rw [e i hi]; exact hx)⟩
theorem pre_at (A : Nat → Rc) (n i : Nat) (h : i < n) : (pre A n).getD i noRec = A i := by
  unfold pre
  simp [List.getD, h]
theorem rdR_pre {w : World} {B : Nat} {v : Value} {A : Nat → Rc} {n : Nat} (h : OwnR w B v (pre A n)) : RdR w v n A := by
  have := h.rdR
  rw [pre_len] at this
  exact rdR_congr this (fun i hi => pre_at A n i hi)
theorem rd_take {w : World} {ao : Option Addr} {N cap : Nat} {l : List Int} (h : Rd w (.slice ao N cap) l) {k : Nat} (hk : k ≤ N) : Rd w (.slice ao k cap) (l.take k) := by
  obtain ⟨ao', cap', e, h1, h2, h3, h4⟩ := h
  injection e with e1 e2 e3
  subst e1 e3
  have hl : (l.take k).length = k := by rw [List.length_take]; omega
  refine ⟨ao, cap, by rw [hl], by rw [hl]; omega, h2, h3, ?_⟩
  rcases h4 with h | ⟨b, o, h, hat⟩
  · left; rw [h]; simp
  · exact Or.inr ⟨b, o, h, hat.take k⟩
theorem tmodB (a : Int) (n : Nat) (hn : 0 < n) : ∃ i : Nat, (IntKind.u64.wrap a).tmod (8 * (n : Int)) = (i : Int) ∧ i < 8 * n := by
  have h0 : 0 ≤ IntKind.u64.wrap a := by rw [IntKind.wrap_u64]; omega
  rw [Int.tmod_eq_emod_of_nonneg h0]
  have h1 := Int.emod_nonneg (IntKind.u64.wrap a) (show 8 * (n : Int) ≠ 0 by omega)
  have h2 := Int.emod_lt_of_pos (IntKind.u64.wrap a) (show (0 : Int) < 8 * (n : Int) by omega)
  exact ⟨((IntKind.u64.wrap a) % (8 * (n : Int))).toNat, by omega, by omega⟩
theorem bit8_is (r : Nat) (h : r < 8) : 2 ^ r < 256 ∧ 2 ^ r ≠ 0 := by
  rcases (show r = 0 ∨ r = 1 ∨ r = 2 ∨ r = 3 ∨ r = 4 ∨ r = 5 ∨ r = 6 ∨ r = 7 by omega) with rfl | rfl | rfl | rfl | rfl | rfl | rfl | rfl <;> decide
theorem wrtB_no {g : Gm} {A : Nat → Rc} {n : Nat} (h : wrtE g A n ≠ 0) : wrtB g A n = [] := by unfold wrtB; rw [if_neg h]
end Go.Proofs.YtfoblmambbfphaaGreat

namespace Go.Proofs.YtfoblmambbfphaaGreat
open Go.RowKit
set_option linter.unusedVariables false

def lgA (i : Nat) : Rc := ⟨0, i, 0, 0, 0, 0, 0, 0, 0⟩
def lgG : Gm := ⟨0, 0, -1⟩
theorem lgG_ok : lgG.ok := ⟨by unfold S64 lgG; simp only; omega, by unfold S64 lgG; simp only; omega, by unfold S64 lgG; simp only; omega⟩
theorem lg_ok (i : Nat) (h : i ≤ 65535) : (lgA i).ok := by
  refine ⟨?_, ?_, ?_, ?_, ?_, ?_, ?_, ?_, ?_⟩ <;> (try unfold S64) <;> simp only [lgA] <;> omega
theorem lg_last : ∀ k, lastR (-1) (pre lgA k) = (k : Int) - 1
  | 0 => rfl
  | k + 1 => by
    rw [pre_succ, lastR_snoc]
    show ((k : Nat) : Int) = _
    omega
theorem lg_wr (k : Nat) (h : k ≤ 65535) : wrE (lgA k) ((k : Int) - 1) = 0 := by
  unfold wrE
  rw [if_pos]
  · rw [if_neg (by omega), if_neg (by show ¬ ((k : Nat) : Int) ≤ _; omega)]
  · unfold chk lgA
    simp only
    rw [if_neg (by omega), if_neg (by omega), if_neg (by omega)]
theorem lg_put : put 0 = [0] := by rw [put_lo (by omega)]
theorem lg_len (k : Nat) (h : k ≤ 65535) : (wrB (lgA k) ((k : Int) - 1)).length = 9 := by
  unfold wrB
  rw [if_pos (lg_wr k h)]
  have e : (lgA k).i - ((k : Int) - 1) - 1 = 0 := by show ((k : Nat) : Int) - _ - 1 = 0; omega
  rw [e, lg_put]
  have e2 : bodyB (lgA k) = [0, 0, 0, 0, 0, 0, 0] := by
    unfold bodyB lgA wholeB nums zs
    have z : zig 0 = 0 := by unfold zig; simp
    simp [z, lg_put]
  rw [e2]
  rfl
theorem lg_chain : ∀ k, k ≤ 65535 → chainR (-1) (pre lgA k) ∧ (encR (-1) (pre lgA k)).length = 9 * k
  | 0, _ => ⟨trivial, rfl⟩
  | k + 1, h => by
    obtain ⟨c1, c2⟩ := lg_chain k (by omega)
    rw [pre_succ]
    refine ⟨chainR_snoc _ _ _ c1 (lg_ok k (by omega)) (by rw [lg_last]; exact lg_wr k (by omega)), ?_⟩
    rw [encR_snoc, List.length_append, c2, lg_last, lg_len k (by omega)]
    omega
theorem lg_hed {n : Nat} (h : n ≤ 128) : hedE lgG n = 0 := by
  unfold hedE lgG timB
  rw [if_neg (by simp), if_neg (by simp), if_neg (by omega)]
theorem lg_yes {n : Nat} (h : n ≤ 128) : wrtE lgG lgA n = 0 := by
  obtain ⟨c1, c2⟩ := lg_chain n (by omega)
  have hh := lg_hed h
  have ge : gmE lgG lgA n = 0 := by unfold gmE; rw [if_pos hh]; exact fir_chain _ _ c1
  have hl := hedB_len hh
  unfold wrtE
  rw [if_pos ge, if_neg]
  unfold gmB
  rw [List.length_append, c2]
  omega
theorem lg_no {n : Nat} (h : 128 < n) : wrtE lgG lgA n = 8 ∧ wrtB lgG lgA n = [] := by
  have hh : hedE lgG n = 8 := by
    unfold hedE lgG timB
    rw [if_neg (by simp), if_neg (by simp), if_pos (by omega)]
  have ge : gmE lgG lgA n = 8 := by unfold gmE; rw [if_neg (by rw [hh]; decide), hh]
  have we : wrtE lgG lgA n = 8 := by unfold wrtE; rw [if_neg (by rw [ge]; decide), ge]
  exact ⟨we, wrtB_no (by rw [we]; decide)⟩
theorem zero_bytes (n : Nat) : Bytes (List.replicate n 0) := by
  intro c hc
  have := (List.mem_replicate.1 hc).2
  subst this
  omega
theorem zeros_is (n : Nat) : (rgE (List.replicate n 0) = 8 ↔ 4096 < n) ∧ rgE (List.replicate n 0) ≠ 0 := by
  by_cases h : 4096 < n
  · have := zeros_no n
    rw [if_pos h] at this
    rw [this]
    exact ⟨⟨fun _ => h, fun _ => rfl⟩, by decide⟩
  · rcases zeros_e (n := n) (by omega) with e | e | e <;> rw [e] <;> exact ⟨⟨fun h' => absurd h' (by decide), fun h' => absurd h' h⟩, by decide⟩
end Go.Proofs.YtfoblmambbfphaaGreat

namespace Go.Proofs.YtfoblmambbfphaaGreat
open Go.RowKit
set_option linter.unusedVariables false

theorem pre_take (A : Nat → Rc) (n k : Nat) (h : k ≤ n) : (pre A n).take k = pre A k := by
  unfold pre
  rw [← List.map_take, List.take_range, Nat.min_eq_left h]
theorem chain_front : ∀ (L M : List Rc) (last : Int), chainR last (L ++ M) → chainR last L
  | [], _, _, _ => trivial
  | r :: L, M, last, ⟨h1, h2, h3⟩ => ⟨h1, h2, chain_front L M r.i h3⟩
theorem chain_pre {A : Nat → Rc} {n : Nat} (h : chainR (-1) (pre A n)) {k : Nat} (hk : k < n) : wrE (A k) (lastR (-1) (pre A k)) = 0 := by
  have d := drop_cons (L := pre A n) (j := k) (by rw [pre_len]; exact hk)
  have cd := chainR_drop (pre A n) (-1) k h
  rw [d, pre_take A n k (by omega), pre_at A n k hk] at cd
  exact cd.2.1
theorem chain_cut {A : Nat → Rc} {n : Nat} (h : chainR (-1) (pre A n)) {k : Nat} (hk : k ≤ n) : chainR (-1) (pre A k) := by
  refine chain_front _ ((pre A n).drop k) _ ?_
  rw [← pre_take A n k hk, List.take_append_drop]
  exact h
theorem hed_last (g : Gm) {n : Nat} (h : n ≤ 100) : (hedB g 0).take ((hedB g 0).length - 1) ++ [(n : Int)] = hedB g n := by
  obtain ⟨F, hF⟩ : ∃ F, [71, 1] ++ put g.t ++ put (zig g.m) ++ put (bkI g) = F := ⟨_, rfl⟩
  have e0 : hedB g 0 = F ++ [0] := by
    unfold hedB
    rw [hF]
    have : put ((0 : Nat) : Int) = [0] := put_lo (by omega)
    rw [this]
  have en : hedB g n = F ++ [(n : Int)] := by
    unfold hedB
    rw [hF, put_lo (by omega)]
  rw [e0, en]
  simp
theorem hed_six (g : Gm) (n : Nat) : 6 ≤ (hedB g n).length := by
  have p1 := put_pos g.t
  have p2 := put_pos (zig g.m)
  have p3 := put_pos (bkI g)
  have p4 := put_pos (n : Int)
  unfold hedB
  simp only [List.length_append, List.length_cons, List.length_nil]
  omega
theorem gm_bare (g : Gm) (A : Nat → Rc) : gmB g A 0 = hedB g 0 := by
  unfold gmB
  rw [pre_zero]
  simp [encR]
theorem rd_blk {w : World} {M : Nat} {z : Int} (h : Blk w M [.int .u8 z]) : Rd w (.slice (some ⟨M, 0, none⟩) 1 1) [z] :=
  ⟨_, 1, rfl, Nat.le_refl _, by omega, fun h => by simp at h, Or.inr ⟨M, 0, rfl, fun i hi => by
    have : i = 0 := by simpa using hi
    subst this
    exact h.cell 0 _ rfl⟩⟩
end Go.Proofs.YtfoblmambbfphaaGreat

namespace Go.Proofs.YtfoblmambbfphaaGreat
open Go.RowKit
set_option linter.unusedVariables false

/-! Check -/
def idsE : Int → List En → Int
  | _, [] => 0
  | last, e :: L => if e.i < 0 ∨ 65535 < e.i then 3 else if e.i ≤ last then 10 else idsE e.i L
def snE (t m : Int) (L : List En) : Int := if t < 0 ∨ 4294967295 < t ∨ timB m = false then 3 else if 64 < L.length then 4 else idsE (-1) L
/-- Ids that may be, and rise. -/
def rise : Int → List En → Prop
  | _, [] => True
  | last, e :: L => last < e.i ∧ e.i ≤ 65535 ∧ rise e.i L
theorem ids_rise : ∀ (L : List En) (last : Int), -1 ≤ last → (idsE last L = 0 ↔ rise last L)
  | [], _, _ => ⟨fun _ => trivial, fun _ => rfl⟩
  | e :: L, last, h => by
    unfold idsE rise
    constructor
    · intro h1
      split at h1
      · omega
      · split at h1
        · omega
        · exact ⟨by omega, by omega, (ids_rise L e.i (by omega)).1 h1⟩
    · intro ⟨h1, h2, h3⟩
      rw [if_neg (by omega), if_neg (by omega)]
      exact (ids_rise L e.i (by omega)).2 h3
theorem sn_ok {t m : Int} {L : List En} (h : snE t m L = 0) : 0 ≤ t ∧ t ≤ 4294967295 ∧ timB m = true ∧ L.length ≤ 64 ∧ rise (-1) L := by
  unfold snE at h
  split at h
  · omega
  · rename_i h1
    split at h
    · omega
    · refine ⟨by omega, by omega, ?_, by omega, (ids_rise L (-1) (by omega)).1 h⟩
      cases e : timB m
      · exact absurd (Or.inr (Or.inr e)) h1
      · rfl

/-! Find -/
def findE (id : Int) : List En → Option En
  | [] => none
  | e :: L => if e.i = id then some e else findE id L

/-! Full, Diff -/
def putR (x : En) : Rc := ⟨0, x.i, x.p0, x.p1, x.p2, x.v0, x.v1, x.v2, x.a⟩
def remR (x : En) : Rc := ⟨2, x.i, 0, 0, 0, 0, 0, 0, 0⟩
def newE (r : Rc) : En := ⟨r.i, r.p0, r.p1, r.p2, r.v0, r.v1, r.v2, r.a, 0⟩
def consO {α : Type} (x : α) : Option (List α) → Option (List α)
  | some l => some (x :: l)
  | none => none
/-- One row's first entity against the other row (k: the rows' merge, of what is behind it). -/
def mrgIn (a : En) (k : List En → Option (List Rc)) : List En → Option (List Rc)
  | [] => consO (remR a) (k [])
  | b :: bs =>
    if a.i < b.i then consO (remR a) (k (b :: bs))
    else if b.i < a.i then (if b.g ≠ 0 then none else consO (putR b) (mrgIn a k bs))
    else if b.g ≠ a.g ∧ b.g ≠ (a.g + 1) % 256 then none
    else if entB a b = true then k bs else consO (difR a b) (k bs)
def mrgNo : List En → Option (List Rc)
  | [] => some []
  | b :: bs => if b.g ≠ 0 then none else consO (putR b) (mrgNo bs)
def mrg : List En → List En → Option (List Rc)
  | [], L => mrgNo L
  | a :: al, L => mrgIn a (mrg al) L
theorem mrg_nn : mrg [] [] = some [] := rfl
theorem mrg_cn (a : En) (al : List En) : mrg (a :: al) [] = consO (remR a) (mrg al []) := rfl
theorem mrg_nc (b : En) (bs : List En) : mrg [] (b :: bs) = if b.g ≠ 0 then none else consO (putR b) (mrg [] bs) := rfl
theorem mrg_cc (a : En) (al : List En) (b : En) (bs : List En) : mrg (a :: al) (b :: bs) =
    if a.i < b.i then consO (remR a) (mrg al (b :: bs))
    else if b.i < a.i then (if b.g ≠ 0 then none else consO (putR b) (mrg (a :: al) bs))
    else if b.g ≠ a.g ∧ b.g ≠ (a.g + 1) % 256 then none
    else if entB a b = true then mrg al bs else consO (difR a b) (mrg al bs) := rfl
def fulE (t m : Int) (L : List En) : Int := if snE t m L = 0 then (if ∃ x ∈ L, x.g ≠ 0 then 15 else 0) else snE t m L
def fulL (t m : Int) (L : List En) : List Rc := if fulE t m L = 0 then L.map putR else []
def dlE (t m : Int) (L : List En) (t' m' : Int) (L' : List En) : Int :=
  if snE t m L = 0 then (if snE t' m' L' = 0 then (if t' ≤ t then 10 else if (mrg L L').isNone = true then 15 else 0) else snE t' m' L') else snE t m L
def dlL (t m : Int) (L : List En) (t' m' : Int) (L' : List En) : List Rc := if dlE t m L t' m' L' = 0 then (mrg L L').getD [] else []

/-! Apply -/
/-- One entity against the records (k: what is made of the entities behind it). -/
def aplIn (x : En) (k : List Rc → Option (List En)) : List Rc → Option (List En)
  | [] => consO x (k [])
  | r :: rs =>
    if x.i < r.i then consO x (k (r :: rs))
    else if x.i = r.i then (if r.k = 0 then none else if r.k = 2 then k rs else consO (appN x r) (k rs))
    else if r.k = 0 then consO (newE r) (aplIn x k rs) else none
def aplNo : List Rc → Option (List En)
  | [] => some []
  | r :: rs => if r.k = 0 then consO (newE r) (aplNo rs) else none
def apl : List En → List Rc → Option (List En)
  | [], R => aplNo R
  | x :: xs, R => aplIn x (apl xs) R
theorem apl_nil : ∀ (L : List En), apl L [] = some L
  | [] => rfl
  | x :: xs => by
    show consO x (apl xs []) = _
    rw [apl_nil xs]; rfl
theorem apl_nc (r : Rc) (rs : List Rc) : apl [] (r :: rs) = if r.k = 0 then consO (newE r) (apl [] rs) else none := rfl
theorem apl_cc (x : En) (xs : List En) (r : Rc) (rs : List Rc) : apl (x :: xs) (r :: rs) =
    if x.i < r.i then consO x (apl xs (r :: rs))
    else if x.i = r.i then (if r.k = 0 then none else if r.k = 2 then apl xs rs else consO (appN x r) (apl xs rs))
    else if r.k = 0 then consO (newE r) (apl (x :: xs) rs) else none := rfl
def wasL (b : Int) (L : List En) : List En := if b = -1 then [] else L
def aplE (t m : Int) (L : List En) (g : Gm) (A : Nat → Rc) (n : Nat) : Int :=
  if gmE g A n = 0 then
    (if g.b ≠ -1 ∧ snE t m L ≠ 0 then snE t m L else if g.b ≠ -1 ∧ t ≠ g.b then 14
     else match apl (wasL g.b L) (pre A n) with
       | none => 15
       | some M => if 64 < M.length then 4 else 0)
  else gmE g A n
def aplL (t m : Int) (L : List En) (g : Gm) (A : Nat → Rc) (n : Nat) : List En := if aplE t m L g A n = 0 then (apl (wasL g.b L) (pre A n)).getD [] else []
end Go.Proofs.YtfoblmambbfphaaGreat
