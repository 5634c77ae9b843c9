/-
  Texts Gm14, Gm15, Gm16, Gm17 in one.
-/
import Derived.Deep.DeepCutAuto
import Derived.Deep.CutBlock
import Derived.Deep.DrawnRows
import Derived.Deep.RegionHeldLaw
import Derived.Test.YtlhfelelgkkblaaP19
namespace Go.Proofs.Ytlhfelelgkkblaa
open Go.RowKit
set_option linter.unusedVariables false
set_option maxRecDepth 20000

theorem growR_wp {w : World} {ops : Array Oper} {rest : List Oper} {o : Oper} {a : Act} {Q : Exit → Act → World → Prop} (hgd : o.guard = none) (s x : Operand)
    (ho : o.op = .call { callee := .builtin .append, args := #[s, x], argTypes := #[22, 22] })
    (B : Nat) (v : Value) (L : List Rc) (hs : a.eval s = v) (hown : OwnR w B v L) (g0 : Nat) (r : Rc) (hx : a.eval x = .slice (some ⟨g0, 0, none⟩) 1 1)
    (hr : ∀ j u, (recC r)[j]? = some u → w.cell? ⟨g0, j, none⟩ = some u) (hlen : L.length ≤ 1000000) (hB : B ≤ w.heap.size)
    (h : ∀ v' w', OwnR w' B v' (L ++ [r]) → Grow B v w v' w' → wpList Try.prog ops Q rest (a.put o.dst v') w') : wpList Try.prog ops Q (o :: rest) a w :=
  wpList_plain hgd fun K hK => growR_op s x ho B v L hs hown g0 r hx hr hlen hB fun v' w' h1 h2 => hK _ _ (h v' w' h1 h2)
theorem rdr_e {w : World} {K R : Nat} {s : St} (h : Rdr w K R s) : w.cell? ⟨R, 2, none⟩ = some (.int .i64 s.e) := by obtain ⟨v, h⟩ := h; exact h.c2
theorem dg_sign (w : World) (K R : Nat) (s : St) (x : Int) (hr : Rdr w K R s) :
    Calls Try.prog 28 #[.pointer (some ⟨R, 0, none⟩), .int .u8 x] w fun e w' => e = .returned (.tuple #[]) ∧ Rdr w' K R (sameS x s) ∧ Ch R w w' := by
  have HR : Hid (Rdr w K R s) := hr
  have HY : Hid (byteA s = x → sameS x s = byteS s) := fun h => by unfold sameS; rw [if_pos h]
  have HN : Hid (byteA s ≠ x → sameS x s = failS (byteS s) 7) := fun h => by unfold sameS; rw [if_neg h]
  obtain ⟨q, hq⟩ : ∃ q, sameS x s = q := ⟨_, rfl⟩
  rw [hq] at HY HN
  rw [hq]
  clear hq
  have HB : Hid (∀ w', Rdr w' K R s → Calls Try.prog 57 #[.pointer (some ⟨R, 0, none⟩)] w' fun e w'' => e = .returned (.int .u8 (byteA s)) ∧ Rdr w'' K R (byteS s) ∧ Ch R w' w'') := fun w' h => rbyte_any w' K R s h
  obtain ⟨a, ha⟩ : ∃ a, byteA s = a := ⟨_, rfl⟩
  rw [ha] at HY HN HB
  clear ha hr
  go_enter Try.func28, Try.ntmps28
  go_wp2_with fail
  refine (HB.out _ HR.out).mono ?_; rintro e w1 ⟨rfl, r1, k1⟩
  have R1 : Hid (Rdr w1 K R (byteS s)) := r1
  clear r1
  by_cases hx : a = x
  · subst hx
    have e := HY.out rfl
    have E : Hid (q = byteS s) := e
    clear e HY HN HB
    go_wp2_with fail
    go_end0
    exact ⟨rfl, E.out ▸ R1.out, k1⟩
  · have E : Hid (q = failS (byteS s) 7) := HN.out hx
    have heq : (a == x) = false := by simp [hx]
    clear HY HN HB
    go_wp2_with fail
    refine (rfail_any _ K R _ 7 R1.out).mono ?_; rintro e' w2 ⟨rfl, r2, k2⟩
    have R2 : Hid (Rdr w2 K R (failS (byteS s) 7)) := r2
    clear r2
    go_wp2_with fail
    go_end0
    exact ⟨rfl, E.out ▸ R2.out, k1.trans k2⟩
set_option maxHeartbeats 16000000 in
theorem dg_read (w : World) (v : Value) (l : List Int) (hb : Bytes l) (h : Rd w v l) (hlen : l.length ≤ 140737488355328) :
    Calls Try.prog 15 #[v] w fun e w' => ∃ u, e = .returned (.tuple #[gmV (rgG l) u, .int .i64 (rgE l)]) ∧ OwnR w' w.heap.size u (rgL l) ∧ Below w.heap.size w w' := by
  have HB : Hid (Bytes l) := hb
  have HRd : Hid (Rd w v l) := h
  have HL : Hid (l.length ≤ 140737488355328) := hlen
  have BO : Hid (Bytes (opened l)) := (by unfold opened; split; exact hb.take _; intro c hc; simp at hc : Bytes (opened l))
  have LO : Hid (4096 < l.length → rgE l = 8) := fun h => by unfold rgE; rw [if_pos h]
  have NO : Hid (¬ 4096 < l.length → openB l = false → rgE l = 9) := fun h h2 => by unfold rgE; rw [if_neg h, if_neg (by rw [h2]; simp)]
  have YE : Hid (¬ 4096 < l.length → openB l = true → rgE l = doneA (rF (opened l)).1) := fun h h2 => by unfold rgE; rw [if_neg h, if_pos h2]; rfl
  have ZE : Hid (rgE l ≠ 0 → rgG l = ⟨0, 0, 0⟩ ∧ rgL l = []) := fun h => ⟨by unfold rgG; rw [if_neg h], by unfold rgL; rw [if_neg h]⟩
  have GO : Hid (rgE l = 0 → rgG l = ⟨rT (opened l), rM (opened l), rP (opened l)⟩ ∧ rgL l = (rF (opened l)).2) := fun h => ⟨by unfold rgG; rw [if_pos h], by unfold rgL; rw [if_pos h]⟩
  obtain ⟨E, hE⟩ : ∃ x, rgE l = x := ⟨_, rfl⟩
  obtain ⟨G, hG⟩ : ∃ x, rgG l = x := ⟨_, rfl⟩
  obtain ⟨L, hL⟩ : ∃ x, rgL l = x := ⟨_, rfl⟩
  obtain ⟨q, hq⟩ : ∃ x, openB l = x := ⟨_, rfl⟩
  obtain ⟨ol, hol⟩ : ∃ x, opened l = x := ⟨_, rfl⟩
  obtain ⟨N, hN⟩ : ∃ x, l.length = x := ⟨_, rfl⟩
  have OP : Hid (∀ w', Rd w' v l → Calls Try.prog 27 #[v] w' fun e w'' => ∃ u, e = .returned (.tuple #[u, .bool q]) ∧ Own w'' w'.heap.size u ol ∧ Below w'.heap.size w' w'') := fun w' h' => by rw [← hq, ← hol]; exact ropen_any w' v l HB.out h' HL.out
  rw [hN, hE] at LO
  rw [hN, hq, hE] at NO
  rw [hN, hq, hol, hE] at YE
  rw [hE, hG, hL] at ZE
  rw [hE, hol, hG, hL] at GO
  rw [hol] at BO
  rw [hE, hG, hL]
  obtain ⟨ao, cap, rfl, hc, hm, _⟩ := h
  rw [hN] at hc HRd OP ⊢
  clear hE hG hL hq hol hN hlen hb HB HL
  by_cases hlong : 4096 < N
  · have e8 := LO.out hlong
    obtain ⟨z1, z2⟩ := ZE.out (by rw [e8]; decide)
    subst e8 z1 z2
    clear LO NO YE ZE GO OP
    go_enter Try.func15, Try.ntmps15
    go_wp2_with fail
    generalize hW : w.alloc (.cells #[.int .i64 0, .int .i64 0, .int .i64 0, .slice none 0 0] 24) = W
    obtain ⟨RB, GB, _⟩ := boxed hW
    clear hW
    have q0 := RB.cell 0 _ rfl
    have q1 := RB.cell 1 _ rfl
    have q2 := RB.cell 2 _ rfl
    have q3 := RB.cell 3 _ rfl
    refine bodyPost_ret (v := .tuple #[gmV ⟨0, 0, 0⟩ (.slice none 0 0), .int .i64 8]) (by simp [results, Try.results15, go_sem, q0, q1, q2, q3]) rfl ⟨_, rfl, OwnR.nil _ _, GB⟩
  have EQ0 := NO.out hlong
  have EQ1 := YE.out hlong
  have NO' : Hid (q = false → E = 9) := EQ0
  have YE' : Hid (q = true → E = doneA (rF ol).1) := EQ1
  clear LO NO YE EQ0 EQ1
  go_enter Try.func15, Try.ntmps15
  go_wp2_with fail
  generalize hW : w.alloc (.cells #[.int .i64 0, .int .i64 0, .int .i64 0, .slice none 0 0] 24) = W
  obtain ⟨Aa, Ba, _⟩ := boxed hW
  obtain ⟨H, hH⟩ : ∃ H, w.heap.size = H := ⟨_, rfl⟩
  have HH : Hid (w.heap.size = H) := hH
  rw [hH] at Aa Ba
  rw [hH]
  have hle : H ≤ w.heap.size := by omega
  clear hW
  refine (OP.out _ (HRd.out.below (by rw [hH]; exact Ba))).mono ?_; rintro e w1 ⟨u1, rfl, own1, b1⟩
  have Ab := Aa.below b1 Aa.lt
  have Bb := bup Ba hle b1
  have RD : Hid (Rd w1 u1 ol) := own1.rd
  have c0 := Ab.cell 0 _ rfl
  have c1 := Ab.cell 1 _ rfl
  have c2 := Ab.cell 2 _ rfl
  have c3 := Ab.cell 3 _ rfl
  have f0 := Ab.froz 0
  have f1 := Ab.froz 1
  have f2 := Ab.froz 2
  have f3 := Ab.froz 3
  have la := Ab.lt
  clear own1 b1 Aa Ba OP HRd hH
  cases q
  · have e9 := NO'.out rfl
    obtain ⟨z1, z2⟩ := ZE.out (by rw [e9]; decide)
    subst e9 z1 z2
    clear NO' YE' ZE GO
    go_wp2_with fail
    have RB := Blk.four (x0 := .int .i64 0) (x1 := .int .i64 0) (x2 := .int .i64 0) (x3 := .slice none 0 0) Ab
    have GB := below_four (x0 := .int .i64 0) (x1 := .int .i64 0) (x2 := .int .i64 0) (x3 := .slice none 0 0) Bb (Nat.le_refl H)
    generalize (((w1.setCell ⟨H, 0, none⟩ (.int .i64 0)).setCell ⟨H, 1, none⟩ (.int .i64 0)).setCell ⟨H, 2, none⟩ (.int .i64 0)).setCell ⟨H, 3, none⟩ (.slice none 0 0) = W9 at RB GB ⊢
    have q0 := RB.cell 0 _ rfl
    have q1 := RB.cell 1 _ rfl
    have q2 := RB.cell 2 _ rfl
    have q3 := RB.cell 3 _ rfl
    refine bodyPost_ret (v := .tuple #[gmV ⟨0, 0, 0⟩ (.slice none 0 0), .int .i64 9]) (by simp [results, Try.results15, go_sem, q0, q1, q2, q3]) rfl ⟨_, rfl, OwnR.nil _ _, by first | exact GB | (rw [HH.out]; exact GB)⟩
  have EE : Hid (E = doneA (rF ol).1) := YE'.out rfl
  clear NO' YE'
  have TB := rT_bd ol
  have GB := rG_bd ol
  have NB := rN_bd ol
  have U1 : Hid (∀ R w', Rdr w' R R (rA ol) → Calls Try.prog 29 #[.pointer (some ⟨R, 0, none⟩), .int .u64 4294967295] w' fun e w'' => e = .returned (.int .u64 (rT ol)) ∧ Rdr w'' R R (rB ol) ∧ Ch R w' w'') := fun R w' h => ruint_any w' R R _ _ h
  have U2 : Hid (∀ R w', Rdr w' R R (rB ol) → Calls Try.prog 30 #[.pointer (some ⟨R, 0, none⟩)] w' fun e w'' => e = .returned (.int .i64 (rM ol)) ∧ Rdr w'' R R (intS (rB ol)) ∧ Ch R w' w'') := fun R w' h => rint_any w' R R _ h
  have TY : Hid (timB (rM ol) = true → rC ol = intS (rB ol)) := fun h => if_pos h
  have TN : Hid (timB (rM ol) = false → rC ol = failS (intS (rB ol)) 3) := fun h => if_neg (by show ¬ timB (rM ol) = true; rw [h]; simp)
  have U3 : Hid (∀ R w', Rdr w' R R (rC ol) → Calls Try.prog 29 #[.pointer (some ⟨R, 0, none⟩), .int .u64 (rT ol)] w' fun e w'' => e = .returned (.int .u64 (rG ol)) ∧ Rdr w'' R R (rD ol) ∧ Ch R w' w'') := fun R w' h => ruint_any w' R R _ _ h
  have U4 : Hid (∀ R w', Rdr w' R R (rD ol) → Calls Try.prog 29 #[.pointer (some ⟨R, 0, none⟩), .int .u64 128] w' fun e w'' => e = .returned (.int .u64 (rN ol)) ∧ Rdr w'' R R (rQ ol) ∧ Ch R w' w'') := fun R w' h => ruint_any w' R R _ _ h
  have PP : Hid (rP ol = if 0 < rG ol then rT ol - rG ol else -1) := rfl
  have CF : Hid (rF ol = rowS (rQ ol) (rN ol).toNat) := rfl
  obtain ⟨T, hT⟩ : ∃ x, rT ol = x := ⟨_, rfl⟩
  obtain ⟨M, hM⟩ : ∃ x, rM ol = x := ⟨_, rfl⟩
  obtain ⟨Gk, hG⟩ : ∃ x, rG ol = x := ⟨_, rfl⟩
  obtain ⟨Pb, hPb⟩ : ∃ x, rP ol = x := ⟨_, rfl⟩
  obtain ⟨c, hc'⟩ : ∃ c : Nat, rN ol = c := ⟨(rN ol).toNat, by omega⟩
  rw [hT] at TB GB U1 U3 PP GO
  rw [hM] at U2 TY TN GO
  rw [hG] at GB U3 PP
  rw [hPb] at PP GO
  rw [hc'] at NB U4 CF
  rw [Int.toNat_natCast] at CF
  clear hT hM hG hPb hc'
  obtain ⟨tb0, tb1⟩ := TB
  obtain ⟨gb0, gb1⟩ := GB
  have c128 : c ≤ 128 := by omega
  clear NB
  obtain ⟨ao1, cap1, e1, hc1, hm1, _⟩ := RD.out
  obtain ⟨n1, hn1⟩ : ∃ n1, ol.length = n1 := ⟨_, rfl⟩
  rw [hn1] at e1 hc1
  clear hn1
  subst e1
  go_wp2_with fail
  generalize hV : w1.alloc (.cells #[.slice ao1 n1 cap1, .int .i64 0, .int .i64 0] 64) = W2
  have r2 : Rdr W2 w1.heap.size w1.heap.size ⟨ol, 0, 0⟩ := by rw [← hV]; exact Rdr.new RD.out BO.out _
  obtain ⟨_, b2, _⟩ := boxed hV
  have Ac := Ab.below b2 Ab.lt
  have Bc := bup Bb hle b2
  obtain ⟨R, hR⟩ : ∃ R, w1.heap.size = R := ⟨_, rfl⟩
  rw [hR] at r2 la
  rw [hR]
  have RR : Hid (Rdr W2 R R ⟨ol, 0, 0⟩) := r2
  clear r2 b2 hR RD BO c0 c1 c2 c3 f0 f1 f2 f3 Ab Bb hV
  refine (dg_sign _ R R _ 71 RR.out).mono ?_; rintro e W3 ⟨rfl, r3, k3⟩
  have R3 : Hid (Rdr W3 R R (sameS 71 ⟨ol, 0, 0⟩)) := r3
  have A3 := Ac.ch k3 (by omega)
  have B3 : Below H w W3 := Bc.trans (k3.below.mono (by omega))
  clear r3 k3 RR Ac Bc
  go_wp2_with fail
  refine (dg_sign _ R R _ 1 R3.out).mono ?_; rintro e W4 ⟨rfl, r4, k4⟩
  have R4 : Hid (Rdr W4 R R (rA ol)) := r4
  have A4 := A3.ch k4 (by omega)
  have B4 : Below H w W4 := B3.trans (k4.below.mono (by omega))
  have hRP := r4.lt
  clear r4 k4 R3 A3 B3
  go_wp2_with fail
  generalize hV : W4.alloc (.cells #[.int .i64 0, .int .i64 0, .int .i64 (-1), .slice none 0 0] 24) = W5
  obtain ⟨P5, b5, _⟩ := boxed hV
  have A5 := A4.below b5 A4.lt
  have B5 := bup B4 hle b5
  have R5 : Hid (Rdr W5 R R (rA ol)) := R4.out.below b5 R4.out.lt
  obtain ⟨P, hP⟩ : ∃ P, W4.heap.size = P := ⟨_, rfl⟩
  rw [hP] at P5 hRP
  rw [hP]
  clear hP hV b5 R4 A4 B4
  refine (U1.out _ _ R5.out).mono ?_; rintro e W6 ⟨rfl, r6, k6⟩
  have P6 := P5.ch k6 (by omega)
  have A6 := A5.ch k6 (by omega)
  have B6 : Below H w W6 := B5.trans (k6.below.mono (by omega))
  have y0 := P6.cell 0 _ rfl
  have f0 := P6.froz 0
  have lp := P6.lt
  have R7 : Hid (Rdr (W6.setCell ⟨P, 0, none⟩ (.int .i64 T)) R R (rB ol)) := Rdr.ch r6 ((Ch.refl P _).set 0 _) (by omega) (by omega)
  have P7 : Blk (W6.setCell ⟨P, 0, none⟩ (.int .i64 T)) P [.int .i64 T, .int .i64 0, .int .i64 (-1), .slice none 0 0] := P6.set 0 _ (by simp)
  have A7 : Blk (W6.setCell ⟨P, 0, none⟩ (.int .i64 T)) H _ := A6.other (fun h' => by have h2 : P = H := h'; omega) _
  have B7 : Below H w (W6.setCell ⟨P, 0, none⟩ (.int .i64 T)) := B6.setCell (by show H ≤ P; omega) _
  clear r6 k6 R5 P5 A5 B5
  go_wp2_with fail
  generalize W6.setCell ⟨P, 0, none⟩ (.int .i64 T) = W7 at R7 P7 A7 B7 ⊢
  clear P6 A6 B6 y0 f0 lp U1
  refine (U2.out _ _ R7.out).mono ?_; rintro e W8 ⟨rfl, r8, k8⟩
  have P8 := P7.ch k8 (by omega)
  have A8 := A7.ch k8 (by omega)
  have B8 : Below H w W8 := B7.trans (k8.below.mono (by omega))
  have y0 := P8.cell 1 _ rfl
  have f0 := P8.froz 1
  have lp := P8.lt
  have R9 : Hid (Rdr (W8.setCell ⟨P, 1, none⟩ (.int .i64 M)) R R (intS (rB ol))) := Rdr.ch r8 ((Ch.refl P _).set 1 _) (by omega) (by omega)
  have P9 : Blk (W8.setCell ⟨P, 1, none⟩ (.int .i64 M)) P [.int .i64 T, .int .i64 M, .int .i64 (-1), .slice none 0 0] := P8.set 1 _ (by simp)
  have A9 : Blk (W8.setCell ⟨P, 1, none⟩ (.int .i64 M)) H _ := A8.other (fun h' => by have h2 : P = H := h'; omega) _
  have B9 : Below H w (W8.setCell ⟨P, 1, none⟩ (.int .i64 M)) := B8.setCell (by show H ≤ P; omega) _
  clear r8 k8 R7 P7 A7 B7
  go_upto_region 12 with fail
  generalize W8.setCell ⟨P, 1, none⟩ (.int .i64 M) = W9 at R9 P9 A9 B9 ⊢
  clear P8 A8 B8 y0 f0 lp U2
  obtain ⟨tb, htb⟩ : ∃ x, timB M = x := ⟨_, rfl⟩
  have HTB : Hid (timB M = tb) := htb
  rw [htb] at TY TN
  clear htb
  go_cut [49] (fun v wx => v = .bool (!tb) ∧ wx = W9)
  case first =>
    have y1 := P9.cell 1 _ rfl
    have lp9 := P9.lt
    have h0 := HTB.out
    by_cases m1 : M < -2305843009213693952
    · have E1 : tb = false := by rw [← h0]; unfold timB; simp; omega
      subst E1
      clear h0
      go_wp2_with fail
      go_meet
      exact ⟨by simp, rfl⟩
    · by_cases m2 : 2305843009213693952 < M
      · have E1 : tb = false := by rw [← h0]; unfold timB; simp; omega
        subst E1
        clear h0
        go_wp2_with fail
        go_meet
        exact ⟨by simp, rfl⟩
      · have E1 : tb = true := by rw [← h0]; unfold timB; simp; omega
        subst E1
        clear h0
        go_wp2_with fail
        go_meet
        exact ⟨by simp, rfl⟩
  case rest =>
  obtain ⟨e49, rfl⟩ := hcut
  subst e49
  go_upto_if 49 with fail
  go_cut [51] (fun _ wx => Rdr wx R R (rC ol) ∧ Blk wx P [.int .i64 T, .int .i64 M, .int .i64 (-1), .slice none 0 0] ∧ Blk wx H [.int .i64 0, .int .i64 0, .int .i64 0, .slice none 0 0] ∧ Below H w wx)
  case first =>
    cases tb
    · have E1 : Hid (rC ol = failS (intS (rB ol)) 3) := TN.out rfl
      clear TY TN
      go_wp2_with fail
      refine (rfail_any _ R R _ 3 R9.out).mono ?_; rintro e' w2 ⟨rfl, r2, k2⟩
      have R2 : Hid (Rdr w2 R R (failS (intS (rB ol)) 3)) := r2
      have p2 := P9.ch k2 (by omega)
      have a2 := A9.ch k2 (by omega)
      have b2 : Below H w w2 := B9.trans (k2.below.mono (by omega))
      clear r2
      go_wp2_with fail
      go_meet
      exact ⟨E1.out ▸ R2.out, p2, a2, b2⟩
    · have E1 : Hid (rC ol = intS (rB ol)) := TY.out rfl
      clear TY TN
      go_wp2_with fail
      go_meet
      exact ⟨E1.out ▸ R9.out, P9, A9, B9⟩
  case rest =>
    obtain ⟨r10, P10, A10, B10⟩ := hcut
    have R10 : Hid (Rdr wc R R (rC ol)) := r10
    have y0 := P10.cell 0 _ rfl
    have lp := P10.lt
    have wt : IntKind.u64.wrap T = T := by rw [u64_eq]; omega
    clear r10 P9 A9 B9 R9 TY TN
    go_wp2_with fail
    refine (U3.out _ _ R10.out).mono ?_; rintro e W11 ⟨rfl, r11, k11⟩
    have P11 := P10.ch k11 (by omega)
    have A11 := A10.ch k11 (by omega)
    have B11 : Below H w W11 := B10.trans (k11.below.mono (by omega))
    have R11 : Hid (Rdr W11 R R (rD ol)) := r11
    clear r11 k11 R10 P10 A10 B10 y0 lp U3
    go_upto_if 59 with fail
    go_cut [64] (fun _ wx => Rdr wx R R (rD ol) ∧ Blk wx P [.int .i64 T, .int .i64 M, .int .i64 Pb, .slice none 0 0] ∧ Blk wx H [.int .i64 0, .int .i64 0, .int .i64 0, .slice none 0 0] ∧ Below H w wx)
    case first =>
      have y0 := P11.cell 0 _ rfl
      have y2 := P11.cell 2 _ rfl
      have f2 := P11.froz 2
      have lp := P11.lt
      by_cases hpos : 0 < Gk
      · have E1 : Pb = T - Gk := PP.out.trans (if_pos hpos)
        subst E1
        go_wp2_with fail
        go_meet
        exact ⟨R11.out.ch ((Ch.refl P _).set 2 _) (by omega) (by omega), P11.set 2 _ (by simp), A11.other (fun h' => by have h2 : P = H := h'; omega) _, B11.setCell (by show H ≤ P; omega) _⟩
      · have E1 : Pb = -1 := PP.out.trans (if_neg hpos)
        subst E1
        go_wp2_with fail
        go_meet
        exact ⟨R11.out, P11, A11, B11⟩
    case rest =>
      obtain ⟨r12, P12, A12, B12⟩ := hcut
      have R12 : Hid (Rdr wc R R (rD ol)) := r12
      clear r12 P11 A11 B11 R11 PP
      go_wp2_with fail
      refine (U4.out _ _ R12.out).mono ?_; rintro e W13 ⟨rfl, r13, k13⟩
      have P13 := P12.ch k13 (by omega)
      have A13 := A12.ch k13 (by omega)
      have B13 : Below H w W13 := B12.trans (k13.below.mono (by omega))
      have HBQ : Hid (Bytes (rQ ol).l) := r13.bytes
      have R13 : Hid (Rdr W13 R R (rQ ol)) := r13
      clear r13 k13 R12 P12 A12 B12 U4
      go_wp2_with fail
      obtain ⟨q, hq⟩ : ∃ q, rQ ol = q := ⟨_, rfl⟩
      rw [hq] at HBQ R13 CF
      clear hq
      go_loopw [10, 11] (fun lv i wr => ∃ (k : Nat) (L : List Rc) (v : Value) (z : Int), k ≤ c ∧ i = .int .i64 k ∧ lv = .int .i64 z ∧ ((rowS q k).1.e = 0 → L = (rowS q k).2 ∧ z = lastR (-1) L) ∧ L.length ≤ k ∧ Rdr wr R R (rowS q k).1 ∧ Blk wr P [.int .i64 T, .int .i64 M, .int .i64 Pb, v] ∧ OwnR wr (P + 1) v L ∧ Blk wr H [.int .i64 0, .int .i64 0, .int .i64 0, .slice none 0 0] ∧ Below H w wr) (fun _ i _ => c - (intOf i).toNat)
      case atStart => exact ⟨0, [], _, -1, by omega, rfl, rfl, fun _ => ⟨rfl, rfl⟩, Nat.le_refl _, R13.out, P13, OwnR.nil _ _, A13, B13⟩
      case round =>
        obtain ⟨k, Lq, vq, z, hk, rfl, rfl, ql, qn, q2, q3, q4, q5, q6⟩ := hrel
        have y2 := rdr_e q2
        have lr := q2.lt
        clear R13 P13 A13 B13
        by_cases hlt : k < c
        · by_cases he : (rowS q k).1.e = 0
          · obtain ⟨eL, ez⟩ := ql he
            rw [he] at y2
            have RO := rowS_ok HBQ.out k
            have LB := lastR_bd _ _ RO.1 (by omega) (by omega)
            rw [← eL, ← ez] at LB
            have ONE : Hid (rowS q (k + 1) = (redS (rowS q k).1 z, if redE (rowS q k).1 z = 0 then Lq ++ [redT (rowS q k).1 z] else Lq)) := by rw [ez, eL]; exact rowS_one he
            have RE : Hid (redE (rowS q k).1 z = (redS (rowS q k).1 z).e) := red_e (lastB_of LB.1 LB.2)
            obtain ⟨sk, hsk⟩ : ∃ x, (rowS q k).1 = x := ⟨_, rfl⟩
            rw [hsk] at ONE RE q2
            have RD : Hid (∀ w', Rdr w' R R sk → Calls Try.prog 32 #[.pointer (some ⟨R, 0, none⟩), .int .i64 z] w' fun e w'' => e = .returned (.tuple #[recV (redT sk z), .int .i64 (redE sk z)]) ∧ Rdr w'' R R (redS sk z) ∧ Ch R w' w'') := fun w' h => doc_read w' R R sk z h
            obtain ⟨r, hrr⟩ : ∃ x, redT sk z = x := ⟨_, rfl⟩
            obtain ⟨er, her⟩ : ∃ x, redE sk z = x := ⟨_, rfl⟩
            obtain ⟨s2, hs2⟩ : ∃ x, redS sk z = x := ⟨_, rfl⟩
            rw [hrr, her, hs2] at RD ONE
            rw [her, hs2] at RE
            have NEW : Hid ((rowS q (k + 1)).1 = s2 ∧ ((rowS q (k + 1)).1.e = 0 → Lq ++ [r] = (rowS q (k + 1)).2 ∧ r.i = lastR (-1) (Lq ++ [r]))) := by
              rw [ONE.out]
              refine ⟨rfl, fun h => ?_⟩
              have h0 : er = 0 := RE.out.trans h
              rw [if_pos h0, lastR_snoc]
              exact ⟨rfl, rfl⟩
            have Q2 : Hid (Rdr wr R R sk) := q2
            have Q4 : Hid (OwnR wr (P + 1) vq Lq) := q4
            obtain ⟨ao, cap', e4⟩ := q4.form
            obtain ⟨nq, hnq⟩ : ∃ n, Lq.length = n := ⟨_, rfl⟩
            have qn' : Lq.length ≤ 128 := by omega
            rw [hnq] at e4
            clear hnq
            subst e4
            clear hsk hrr her hs2 q2 q4 ql he RO eL ez ONE RE
            go_wp2_with fail
            refine (RD.out _ Q2.out).mono ?_; rintro e w1 ⟨rfl, r1, k1⟩
            have P1 := q3.ch k1 (by omega)
            have A1 := q5.ch k1 (by omega)
            have O1 : Hid (OwnR w1 (P + 1) (.slice ao nq cap') Lq) := OwnR.chUp Q4.out k1 (by omega)
            have B1 : Below H w w1 := q6.trans (k1.below.mono (by omega))
            have lp1 := P1.lt
            have R1 : Hid (Rdr w1 R R s2) := r1
            clear y2 lr q3 q5 q6 Q2 Q4 RD r1 k1
            go_upto_region 23 with fail
            generalize hV : w1.alloc (.cells (recA r) 50) = W2'
            obtain ⟨X2, bb, zz⟩ := boxed hV
            have P2 := P1.below bb lp1
            have A2 := A1.below bb A1.lt
            have O2 : Hid (OwnR W2' (P + 1) (.slice ao nq cap') Lq) := OwnR.below O1.out bb
            have R2 : Hid (Rdr W2' R R s2) := R1.out.below bb R1.out.lt
            have B2 : Below H w W2' := B1.trans (bb.mono (by omega))
            have AP : some P ≠ (Value.slice ao nq cap').ownBlock := fun h' => by have := (O1.out.lt _ h'.symm).1; omega
            have AH : some H ≠ (Value.slice ao nq cap').ownBlock := fun h' => by have := (O1.out.lt _ h'.symm).1; omega
            have AM : some w1.heap.size ≠ (Value.slice ao nq cap').ownBlock := fun h' => by have := (O1.out.lt _ h'.symm).2; omega
            obtain ⟨Mx, hM⟩ : ∃ M, w1.heap.size = M := ⟨_, rfl⟩
            rw [hM] at X2 AM lp1
            rw [hM]
            clear hV bb zz hM P1 A1 O1 R1 B1
            have y3 := P2.cell 3 _ rfl
            have f3 := P2.froz 3
            have lp2 := P2.lt
            have lx2 := X2.lt
            have x0 := X2.cell 0 _ rfl
            have x1 := X2.cell 1 _ rfl
            have x2 := X2.cell 2 _ rfl
            have x3 := X2.cell 3 _ rfl
            have x4 := X2.cell 4 _ rfl
            have x5 := X2.cell 5 _ rfl
            have x6 := X2.cell 6 _ rfl
            have x7 := X2.cell 7 _ rfl
            have x8 := X2.cell 8 _ rfl
            go_wp2_with (at_builtin; refine growR_wp rfl _ _ rfl (P + 1) _ Lq rfl (OwnR.below O2.out ((Below.refl _ _).alloc (Nat.le_refl _) _)) _ r rfl (fun j u hu => (Blk.new W2' (recA r) 50 rfl).cell j u hu) (by omega) (by first | omega | (simp; omega)) ?_; intro u6 w6 own6 gr6; obtain ⟨ao6, cap6, e6⟩ := own6.form; obtain ⟨n6, hn6⟩ : ∃ n6, (Lq ++ [r]).length = n6 := ⟨_, rfl⟩; rw [hn6] at e6; clear hn6; subst e6; (try simp only [Act.put, List.setIfInBounds_toArray, List.set_cons_zero, List.set_cons_succ]); have P6 := (Blk.grow (P2.alloc _) AP gr6).1; have A6 := (Blk.grow (A2.alloc _) AH gr6).1; have X6 := (Blk.grow (X2.alloc _) AM gr6).1; have R6 : Hid (Rdr w6 R R s2) := Rdr.below (Rdr.below R2.out ((Below.refl _ _).alloc (Nat.le_refl _) _) R2.out.lt) gr6.below (by omega); have B6 : Below H w w6 := (B2.alloc (by omega) _).trans (gr6.below.mono (by omega)); have O6 : Hid (OwnR w6 (P + 1) (Value.slice ao6 n6 cap6) (Lq ++ [r])) := own6; clear own6 gr6; have z3 := P6.cell 3 _ rfl; have g3 := P6.froz 3; have lp6 := P6.lt; have z1 := X6.cell 1 _ rfl; have lz := X6.lt; have z1' : (w6.setCell ⟨P, 3, none⟩ (Value.slice ao6 n6 cap6)).cell? ⟨Mx, 1, none⟩ = some (.int .i64 r.i) := (X6.other (fun h' => by have h2 : P = Mx := h'; omega) _).cell 1 _ rfl; clear y3 f3 lp2 lx2 x0 x1 x2 x3 x4 x5 x6 x7 x8)
            have P7 : Blk (w6.setCell ⟨P, 3, none⟩ (Value.slice ao6 n6 cap6)) P [.int .i64 T, .int .i64 M, .int .i64 Pb, Value.slice ao6 n6 cap6] := P6.set 3 _ (by simp)
            have A7 : Blk (w6.setCell ⟨P, 3, none⟩ (Value.slice ao6 n6 cap6)) H [.int .i64 0, .int .i64 0, .int .i64 0, .slice none 0 0] := A6.other (fun h' => by have h2 : P = H := h'; omega) _
            have R7 : Hid (Rdr (w6.setCell ⟨P, 3, none⟩ (Value.slice ao6 n6 cap6)) R R s2) := R6.out.ch ((Ch.refl P _).set 3 _) (by omega) (by omega)
            have O7 : Hid (OwnR (w6.setCell ⟨P, 3, none⟩ (Value.slice ao6 n6 cap6)) (P + 1) (Value.slice ao6 n6 cap6) (Lq ++ [r])) := OwnR.chUp O6.out ((Ch.refl P _).set 3 _) (by omega)
            have B7 : Below H w (w6.setCell ⟨P, 3, none⟩ (Value.slice ao6 n6 cap6)) := B6.setCell (by show H ≤ P; omega) _
            generalize w6.setCell ⟨P, 3, none⟩ (Value.slice ao6 n6 cap6) = w7 at P7 R7 O7 A7 B7 ⊢
            clear P6 A6 X6 R6 B6 O6 z3 g3 lp6 z1 lz z1' X2 P2 A2 O2 R2 B2
            go_roundw
            case rel => exact ⟨k + 1, Lq ++ [r], _, r.i, by omega, by go_num, rfl, NEW.out.2, by rw [List.length_append]; simp; omega, by rw [NEW.out.1]; exact R7.out, P7, O7.out, A7, B7⟩
            case measure => simp [intOf]; omega
          · have hne : ((rowS q k).1.e == 0) = false := by simp [he]
            have st : Hid (rowS q c = rowS q k) := by
              obtain ⟨j, rfl⟩ : ∃ j, c = k + j := ⟨c - k, by omega⟩
              exact rowS_stuck he j
            have R7 : Hid (Rdr wr R R (rF ol).1) := by rw [CF.out, st.out]; exact q2
            have LL : Hid ((rF ol).1.e = 0 → Lq = (rF ol).2) := fun h => by rw [CF.out, st.out] at h; exact absurd h he
            have O7 : Hid (OwnR wr (P + 1) vq Lq) := q4
            have pp := q3
            have A7 := q5
            have B7 := q6
            obtain ⟨ao7, cap7, e7⟩ := q4.form
            obtain ⟨nn, hnn⟩ : ∃ n, Lq.length = n := ⟨_, rfl⟩
            rw [hnn] at e7
            clear hnn
            subst e7
            obtain ⟨ee, hee⟩ : ∃ x, (rowS q k).1.e = x := ⟨_, rfl⟩
            rw [hee] at y2 hne he
            clear q2 q3 q4 q5 q6 ql st hee
            go_wp2_with fail
            refine (rdone_any _ R R _ R7.out).mono ?_; rintro e W8 ⟨rfl, rfl⟩
            rw [← EE.out]
            have x0 := pp.cell 0 _ rfl
            have x1 := pp.cell 1 _ rfl
            have x2 := pp.cell 2 _ rfl
            have x3 := pp.cell 3 _ rfl
            have lp := pp.lt
            have c0 := A7.cell 0 _ rfl
            have c1 := A7.cell 1 _ rfl
            have c2 := A7.cell 2 _ rfl
            have c3 := A7.cell 3 _ rfl
            have f0 := A7.froz 0
            have f1 := A7.froz 1
            have f2 := A7.froz 2
            have f3 := A7.froz 3
            have la7 := A7.lt
            by_cases hz : E = 0
            · obtain ⟨z1, z3⟩ := GO.out hz
              have LZ : Hid (L = Lq) := z3.trans (LL.out (done_ok (EE.out.symm.trans hz)).1).symm
              subst hz z1
              clear GO ZE EE z3 LL
              go_wp2_with fail
              have RB := Blk.four (x0 := .int .i64 T) (x1 := .int .i64 M) (x2 := .int .i64 Pb) (x3 := .slice ao7 nn cap7) A7
              have GB := below_four (x0 := .int .i64 T) (x1 := .int .i64 M) (x2 := .int .i64 Pb) (x3 := .slice ao7 nn cap7) B7 (Nat.le_refl H)
              have OB : Hid (OwnR ((((W8.setCell ⟨H, 0, none⟩ (.int .i64 T)).setCell ⟨H, 1, none⟩ (.int .i64 M)).setCell ⟨H, 2, none⟩ (.int .i64 Pb)).setCell ⟨H, 3, none⟩ (.slice ao7 nn cap7)) (P + 1) (.slice ao7 nn cap7) Lq) := ownR_four O7.out (by omega)
              generalize (((W8.setCell ⟨H, 0, none⟩ (.int .i64 T)).setCell ⟨H, 1, none⟩ (.int .i64 M)).setCell ⟨H, 2, none⟩ (.int .i64 Pb)).setCell ⟨H, 3, none⟩ (.slice ao7 nn cap7) = W9 at RB GB OB ⊢
              have q0 := RB.cell 0 _ rfl
              have q1 := RB.cell 1 _ rfl
              have q2 := RB.cell 2 _ rfl
              have q3 := RB.cell 3 _ rfl
              refine bodyPost_ret (v := .tuple #[gmV ⟨T, M, Pb⟩ (.slice ao7 nn cap7), .int .i64 0]) (by simp [results, Try.results15, go_sem, q0, q1, q2, q3]) rfl ⟨_, rfl, by rw [LZ.out, HH.out]; exact OB.out.mono (by omega), by first | exact GB | (rw [HH.out]; exact GB)⟩
            · obtain ⟨z1, z3⟩ := ZE.out hz
              have heq : (E == 0) = false := by simp [hz]
              subst z1 z3
              clear GO ZE EE LL x0 x1 x2 x3
              go_wp2_with fail
              have RB := Blk.four (x0 := .int .i64 0) (x1 := .int .i64 0) (x2 := .int .i64 0) (x3 := .slice none 0 0) A7
              have GB := below_four (x0 := .int .i64 0) (x1 := .int .i64 0) (x2 := .int .i64 0) (x3 := .slice none 0 0) B7 (Nat.le_refl H)
              generalize (((W8.setCell ⟨H, 0, none⟩ (.int .i64 0)).setCell ⟨H, 1, none⟩ (.int .i64 0)).setCell ⟨H, 2, none⟩ (.int .i64 0)).setCell ⟨H, 3, none⟩ (.slice none 0 0) = W9 at RB GB ⊢
              have q0 := RB.cell 0 _ rfl
              have q1 := RB.cell 1 _ rfl
              have q2 := RB.cell 2 _ rfl
              have q3 := RB.cell 3 _ rfl
              refine bodyPost_ret (v := .tuple #[gmV ⟨0, 0, 0⟩ (.slice none 0 0), .int .i64 E]) (by simp [results, Try.results15, go_sem, q0, q1, q2, q3]) rfl ⟨_, rfl, OwnR.nil _ _, by first | exact GB | (rw [HH.out]; exact GB)⟩
        · obtain rfl : k = c := by omega
          have R7 : Hid (Rdr wr R R (rF ol).1) := by rw [CF.out]; exact q2
          have LL : Hid ((rF ol).1.e = 0 → Lq = (rF ol).2) := fun h => by rw [CF.out] at h; rw [CF.out]; exact (ql h).1
          have O7 : Hid (OwnR wr (P + 1) vq Lq) := q4
          have pp := q3
          have A7 := q5
          have B7 := q6
          obtain ⟨ao7, cap7, e7⟩ := q4.form
          obtain ⟨nn, hnn⟩ : ∃ n, Lq.length = n := ⟨_, rfl⟩
          rw [hnn] at e7
          clear hnn
          subst e7
          clear q2 q3 q4 q5 q6 ql y2 lr
          go_wp2_with fail
          refine (rdone_any _ R R _ R7.out).mono ?_; rintro e W8 ⟨rfl, rfl⟩
          rw [← EE.out]
          have x0 := pp.cell 0 _ rfl
          have x1 := pp.cell 1 _ rfl
          have x2 := pp.cell 2 _ rfl
          have x3 := pp.cell 3 _ rfl
          have lp := pp.lt
          have c0 := A7.cell 0 _ rfl
          have c1 := A7.cell 1 _ rfl
          have c2 := A7.cell 2 _ rfl
          have c3 := A7.cell 3 _ rfl
          have f0 := A7.froz 0
          have f1 := A7.froz 1
          have f2 := A7.froz 2
          have f3 := A7.froz 3
          have la7 := A7.lt
          by_cases hz : E = 0
          · obtain ⟨z1, z3⟩ := GO.out hz
            have LZ : Hid (L = Lq) := z3.trans (LL.out (done_ok (EE.out.symm.trans hz)).1).symm
            subst hz z1
            clear GO ZE EE z3 LL
            go_wp2_with fail
            have RB := Blk.four (x0 := .int .i64 T) (x1 := .int .i64 M) (x2 := .int .i64 Pb) (x3 := .slice ao7 nn cap7) A7
            have GB := below_four (x0 := .int .i64 T) (x1 := .int .i64 M) (x2 := .int .i64 Pb) (x3 := .slice ao7 nn cap7) B7 (Nat.le_refl H)
            have OB : Hid (OwnR ((((W8.setCell ⟨H, 0, none⟩ (.int .i64 T)).setCell ⟨H, 1, none⟩ (.int .i64 M)).setCell ⟨H, 2, none⟩ (.int .i64 Pb)).setCell ⟨H, 3, none⟩ (.slice ao7 nn cap7)) (P + 1) (.slice ao7 nn cap7) Lq) := ownR_four O7.out (by omega)
            generalize (((W8.setCell ⟨H, 0, none⟩ (.int .i64 T)).setCell ⟨H, 1, none⟩ (.int .i64 M)).setCell ⟨H, 2, none⟩ (.int .i64 Pb)).setCell ⟨H, 3, none⟩ (.slice ao7 nn cap7) = W9 at RB GB OB ⊢
            have q0 := RB.cell 0 _ rfl
            have q1 := RB.cell 1 _ rfl
            have q2 := RB.cell 2 _ rfl
            have q3 := RB.cell 3 _ rfl
            refine bodyPost_ret (v := .tuple #[gmV ⟨T, M, Pb⟩ (.slice ao7 nn cap7), .int .i64 0]) (by simp [results, Try.results15, go_sem, q0, q1, q2, q3]) rfl ⟨_, rfl, by rw [LZ.out, HH.out]; exact OB.out.mono (by omega), by first | exact GB | (rw [HH.out]; exact GB)⟩
          · obtain ⟨z1, z3⟩ := ZE.out hz
            have heq : (E == 0) = false := by simp [hz]
            subst z1 z3
            clear GO ZE EE LL x0 x1 x2 x3
            go_wp2_with fail
            have RB := Blk.four (x0 := .int .i64 0) (x1 := .int .i64 0) (x2 := .int .i64 0) (x3 := .slice none 0 0) A7
            have GB := below_four (x0 := .int .i64 0) (x1 := .int .i64 0) (x2 := .int .i64 0) (x3 := .slice none 0 0) B7 (Nat.le_refl H)
            generalize (((W8.setCell ⟨H, 0, none⟩ (.int .i64 0)).setCell ⟨H, 1, none⟩ (.int .i64 0)).setCell ⟨H, 2, none⟩ (.int .i64 0)).setCell ⟨H, 3, none⟩ (.slice none 0 0) = W9 at RB GB ⊢
            have q0 := RB.cell 0 _ rfl
            have q1 := RB.cell 1 _ rfl
            have q2 := RB.cell 2 _ rfl
            have q3 := RB.cell 3 _ rfl
            refine bodyPost_ret (v := .tuple #[gmV ⟨0, 0, 0⟩ (.slice none 0 0), .int .i64 E]) (by simp [results, Try.results15, go_sem, q0, q1, q2, q3]) rfl ⟨_, rfl, OwnR.nil _ _, by first | exact GB | (rw [HH.out]; exact GB)⟩
end Go.Proofs.Ytlhfelelgkkblaa

namespace Go.Proofs.Ytlhfelelgkkblaa
open Go.RowKit
set_option linter.unusedVariables false

theorem rdR_congr {w : World} {v : Value} {n : Nat} {A A' : Nat → Rc} (h : RdR w v n A) (e : ∀ i, i < n → A i = A' i) : RdR w v n A' := by
  obtain ⟨ao, cap, e0, h1, h2, h3⟩ := h
  refine ⟨ao, cap, e0, h1, h2, ?_⟩
  rcases h3 with h | ⟨b, o, hb, hc⟩
  · exact Or.inl h
  · exact Or.inr ⟨b, o, hb, fun i hi j x hx => hc i hi j x (by rw [e i hi]; exact hx)⟩
theorem pre_at (A : Nat → Rc) (n i : Nat) (h : i < n) : (pre A n).getD i noRec = A i := by
  unfold pre
  simp [List.getD, h]
theorem rdR_pre {w : World} {B : Nat} {v : Value} {A : Nat → Rc} {n : Nat} (h : OwnR w B v (pre A n)) : RdR w v n A := by
  have := h.rdR
  rw [pre_len] at this
  exact rdR_congr this (fun i hi => pre_at A n i hi)
theorem rd_take {w : World} {ao : Option Addr} {N cap : Nat} {l : List Int} (h : Rd w (.slice ao N cap) l) {k : Nat} (hk : k ≤ N) : Rd w (.slice ao k cap) (l.take k) := by
  obtain ⟨ao', cap', e, h1, h2, h3, h4⟩ := h
  injection e with e1 e2 e3
  subst e1 e3
  have hl : (l.take k).length = k := by rw [List.length_take]; omega
  refine ⟨ao, cap, by rw [hl], by rw [hl]; omega, h2, h3, ?_⟩
  rcases h4 with h | ⟨b, o, h, hat⟩
  · left; rw [h]; simp
  · exact Or.inr ⟨b, o, h, hat.take k⟩
theorem tmodB (a : Int) (n : Nat) (hn : 0 < n) : ∃ i : Nat, (IntKind.u64.wrap a).tmod (8 * (n : Int)) = (i : Int) ∧ i < 8 * n := by
  have h0 : 0 ≤ IntKind.u64.wrap a := by rw [IntKind.wrap_u64]; omega
  rw [Int.tmod_eq_emod_of_nonneg h0]
  have h1 := Int.emod_nonneg (IntKind.u64.wrap a) (show 8 * (n : Int) ≠ 0 by omega)
  have h2 := Int.emod_lt_of_pos (IntKind.u64.wrap a) (show (0 : Int) < 8 * (n : Int) by omega)
  exact ⟨((IntKind.u64.wrap a) % (8 * (n : Int))).toNat, by omega, by omega⟩
theorem bit8_is (r : Nat) (h : r < 8) : 2 ^ r < 256 ∧ 2 ^ r ≠ 0 := by
  rcases (show r = 0 ∨ r = 1 ∨ r = 2 ∨ r = 3 ∨ r = 4 ∨ r = 5 ∨ r = 6 ∨ r = 7 by omega) with rfl | rfl | rfl | rfl | rfl | rfl | rfl | rfl <;> decide
theorem wrtB_no {g : Gm} {A : Nat → Rc} {n : Nat} (h : wrtE g A n ≠ 0) : wrtB g A n = [] := by unfold wrtB; rw [if_neg h]
end Go.Proofs.Ytlhfelelgkkblaa

namespace Go.Proofs.Ytlhfelelgkkblaa
open Go.RowKit
set_option linter.unusedVariables false

def lgA (i : Nat) : Rc := ⟨0, i, 0, 0, 0, 0, 0, 0, 0⟩
def lgG : Gm := ⟨0, 0, -1⟩
theorem lgG_ok : lgG.ok := ⟨by unfold S64 lgG; simp only; omega, by unfold S64 lgG; simp only; omega, by unfold S64 lgG; simp only; omega⟩
theorem lg_ok (i : Nat) (h : i ≤ 65535) : (lgA i).ok := by
  refine ⟨?_, ?_, ?_, ?_, ?_, ?_, ?_, ?_, ?_⟩ <;> (try unfold S64) <;> simp only [lgA] <;> omega
theorem lg_last : ∀ k, lastR (-1) (pre lgA k) = (k : Int) - 1
  | 0 => rfl
  | k + 1 => by
    rw [pre_succ, lastR_snoc]
    show ((k : Nat) : Int) = _
    omega
theorem lg_wr (k : Nat) (h : k ≤ 65535) : wrE (lgA k) ((k : Int) - 1) = 0 := by
  unfold wrE
  rw [if_pos]
  · rw [if_neg (by omega), if_neg (by show ¬ ((k : Nat) : Int) ≤ _; omega)]
  · unfold chk lgA
    simp only
    rw [if_neg (by omega), if_neg (by omega), if_neg (by omega)]
theorem lg_put : put 0 = [0] := by rw [put_lo (by omega)]
theorem lg_len (k : Nat) (h : k ≤ 65535) : (wrB (lgA k) ((k : Int) - 1)).length = 9 := by
  unfold wrB
  rw [if_pos (lg_wr k h)]
  have e : (lgA k).i - ((k : Int) - 1) - 1 = 0 := by show ((k : Nat) : Int) - _ - 1 = 0; omega
  rw [e, lg_put]
  have e2 : bodyB (lgA k) = [0, 0, 0, 0, 0, 0, 0] := by
    unfold bodyB lgA wholeB nums zs
    have z : zig 0 = 0 := by unfold zig; simp
    simp [z, lg_put]
  rw [e2]
  rfl
theorem lg_chain : ∀ k, k ≤ 65535 → chainR (-1) (pre lgA k) ∧ (encR (-1) (pre lgA k)).length = 9 * k
  | 0, _ => ⟨trivial, rfl⟩
  | k + 1, h => by
    obtain ⟨c1, c2⟩ := lg_chain k (by omega)
    rw [pre_succ]
    refine ⟨chainR_snoc _ _ _ c1 (lg_ok k (by omega)) (by rw [lg_last]; exact lg_wr k (by omega)), ?_⟩
    rw [encR_snoc, List.length_append, c2, lg_last, lg_len k (by omega)]
    omega
theorem lg_hed {n : Nat} (h : n ≤ 128) : hedE lgG n = 0 := by
  unfold hedE lgG timB
  rw [if_neg (by simp), if_neg (by simp), if_neg (by omega)]
theorem lg_yes {n : Nat} (h : n ≤ 128) : wrtE lgG lgA n = 0 := by
  obtain ⟨c1, c2⟩ := lg_chain n (by omega)
  have hh := lg_hed h
  have ge : gmE lgG lgA n = 0 := by unfold gmE; rw [if_pos hh]; exact fir_chain _ _ c1
  have hl := hedB_len hh
  unfold wrtE
  rw [if_pos ge, if_neg]
  unfold gmB
  rw [List.length_append, c2]
  omega
theorem lg_no {n : Nat} (h : 128 < n) : wrtE lgG lgA n = 8 ∧ wrtB lgG lgA n = [] := by
  have hh : hedE lgG n = 8 := by
    unfold hedE lgG timB
    rw [if_neg (by simp), if_neg (by simp), if_pos (by omega)]
  have ge : gmE lgG lgA n = 8 := by unfold gmE; rw [if_neg (by rw [hh]; decide), hh]
  have we : wrtE lgG lgA n = 8 := by unfold wrtE; rw [if_neg (by rw [ge]; decide), ge]
  exact ⟨we, wrtB_no (by rw [we]; decide)⟩
theorem zero_bytes (n : Nat) : Bytes (List.replicate n 0) := by
  intro c hc
  have := (List.mem_replicate.1 hc).2
  subst this
  omega
theorem zeros_is (n : Nat) : (rgE (List.replicate n 0) = 8 ↔ 4096 < n) ∧ rgE (List.replicate n 0) ≠ 0 := by
  by_cases h : 4096 < n
  · have := zeros_no n
    rw [if_pos h] at this
    rw [this]
    exact ⟨⟨fun _ => h, fun _ => rfl⟩, by decide⟩
  · rcases zeros_e (n := n) (by omega) with e | e | e <;> rw [e] <;> exact ⟨⟨fun h' => absurd h' (by decide), fun h' => absurd h' h⟩, by decide⟩
end Go.Proofs.Ytlhfelelgkkblaa

namespace Go.Proofs.Ytlhfelelgkkblaa
open Go.RowKit
set_option linter.unusedVariables false

theorem pre_take (A : Nat → Rc) (n k : Nat) (h : k ≤ n) : (pre A n).take k = pre A k := by
  unfold pre
  rw [← List.map_take, List.take_range, Nat.min_eq_left h]
theorem chain_front : ∀ (L M : List Rc) (last : Int), chainR last (L ++ M) → chainR last L
  | [], _, _, _ => trivial
  | r :: L, M, last, ⟨h1, h2, h3⟩ => ⟨h1, h2, chain_front L M r.i h3⟩
theorem chain_pre {A : Nat → Rc} {n : Nat} (h : chainR (-1) (pre A n)) {k : Nat} (hk : k < n) : wrE (A k) (lastR (-1) (pre A k)) = 0 := by
  have d := drop_cons (L := pre A n) (j := k) (by rw [pre_len]; exact hk)
  have cd := chainR_drop (pre A n) (-1) k h
  rw [d, pre_take A n k (by omega), pre_at A n k hk] at cd
  exact cd.2.1
theorem chain_cut {A : Nat → Rc} {n : Nat} (h : chainR (-1) (pre A n)) {k : Nat} (hk : k ≤ n) : chainR (-1) (pre A k) := by
  refine chain_front _ ((pre A n).drop k) _ ?_
  rw [← pre_take A n k hk, List.take_append_drop]
  exact h
theorem hed_last (g : Gm) {n : Nat} (h : n ≤ 100) : (hedB g 0).take ((hedB g 0).length - 1) ++ [(n : Int)] = hedB g n := by
  obtain ⟨F, hF⟩ : ∃ F, [71, 1] ++ put g.t ++ put (zig g.m) ++ put (bkI g) = F := ⟨_, rfl⟩
  have e0 : hedB g 0 = F ++ [0] := by
    unfold hedB
    rw [hF]
    have : put ((0 : Nat) : Int) = [0] := put_lo (by omega)
    rw [this]
  have en : hedB g n = F ++ [(n : Int)] := by
    unfold hedB
    rw [hF, put_lo (by omega)]
  rw [e0, en]
  simp
theorem hed_six (g : Gm) (n : Nat) : 6 ≤ (hedB g n).length := by
  have p1 := put_pos g.t
  have p2 := put_pos (zig g.m)
  have p3 := put_pos (bkI g)
  have p4 := put_pos (n : Int)
  unfold hedB
  simp only [List.length_append, List.length_cons, List.length_nil]
  omega
theorem gm_bare (g : Gm) (A : Nat → Rc) : gmB g A 0 = hedB g 0 := by
  unfold gmB
  rw [pre_zero]
  simp [encR]
theorem rd_blk {w : World} {M : Nat} {z : Int} (h : Blk w M [.int .u8 z]) : Rd w (.slice (some ⟨M, 0, none⟩) 1 1) [z] :=
  ⟨_, 1, rfl, Nat.le_refl _, by omega, fun h => by simp at h, Or.inr ⟨M, 0, rfl, fun i hi => by
    have : i = 0 := by simpa using hi
    subst this
    exact h.cell 0 _ rfl⟩⟩
end Go.Proofs.Ytlhfelelgkkblaa
