/-
  Layer 8 (record): Read, by the code.
-/
import Derived.Test.YtjjaodlgnoiheaaRec15
namespace Go.Proofs.Ytjjaodlgnoiheaa
open Go.RowKit
set_option linter.unusedVariables false

set_option maxRecDepth 8000 in
set_option maxHeartbeats 8000000 in
theorem rec_read (w : World) (K R : Nat) (s : St) (last : Int) (h : Rdr w K R s) : Calls Try.prog 18 #[.pointer (some ⟨R, 0, none⟩), .int .i64 last] w fun e w' =>
    e = .returned (.tuple #[recV (redT s last), .int .i64 (redE s last)]) ∧ Rdr w' K R (redS s last) ∧ Ch R w w' := by
  have HR : Hid (Rdr w K R s) := h
  have lt := h.lt
  have hK := h.hK
  clear h
  obtain ⟨T, hT⟩ : ∃ T, redT s last = T := ⟨_, rfl⟩
  obtain ⟨U, hU⟩ : ∃ U, redS s last = U := ⟨_, rfl⟩
  obtain ⟨E, hE⟩ : ∃ E, redE s last = E := ⟨_, rfl⟩
  have HT : Hid (redT s last = T) := hT
  have HU : Hid (redS s last = U) := hU
  have HE : Hid (redE s last = E) := hE
  rw [hT, hU, hE]
  clear hT hU hE
  go_enter Try.func18, Try.ntmps18
  go_wp2_with fail
  generalize hW : w.alloc (.cells (recA ⟨0, 0, 0, 0, 0, 0, 0, 0, 0⟩) 25) = W
  obtain ⟨X0, B0, Z0⟩ := boxed hW
  have R0 : Hid (Rdr W K R s) := HR.out.below B0 lt
  have G0 : Ch R w W := Ch.of B0 (by omega)
  obtain ⟨H, hH⟩ : ∃ H, w.heap.size = H := ⟨_, rfl⟩
  have H1 : w.heap.size ≤ H := by omega
  have H2 : H ≤ w.heap.size := by omega
  rw [hH] at X0 lt
  rw [hH]
  clear hH hW B0 Z0 HR
  refine (rec_isLast _ last).mono ?_; rintro e W' ⟨rfl, rfl⟩
  by_cases hb : -1 ≤ last ∧ last ≤ 65535
  · have LB : lastB last = true := by unfold lastB; rw [decide_eq_true hb]
    rw [decide_eq_true hb]
    obtain ⟨l0, l1⟩ := hb
    obtain ⟨q, hq⟩ : ∃ q, takS s last = q := ⟨_, rfl⟩
    obtain ⟨N, hN⟩ : ∃ N, takT s last = N := ⟨_, rfl⟩
    have EU : U = q := by rw [← HU.out]; unfold redS; rw [LB, hq]; rfl
    have EE : E = q.e := by rw [← HE.out]; unfold redE; rw [LB, hq]; rfl
    have ET : T = if q.e = 0 then N else noRec := by rw [← HT.out]; unfold redT; rw [LB, hq, hN]; rfl
    have HQ : Hid (takS s last = q ∧ takT s last = N) := ⟨hq, hN⟩
    have EU' : Hid (U = q) := EU
    have EE' : Hid (E = q.e) := EE
    have ET' : Hid (T = if q.e = 0 then N else noRec) := ET
    clear HT HU HE hq hN EU EE ET LB
    go_wp2_with fail
    refine (rec_take _ K R s last l0 l1 R0.out).mono ?_; rw [HQ.out.1, HQ.out.2]; rintro e w1 ⟨rfl, r1, g1⟩
    have Y1 := X0.ch g1 (by omega)
    have G1 := G0.trans g1
    have R1 : Hid (Rdr w1 K R q) := r1
    have yl1 := Y1.lt
    clear X0 G0 R0 g1 r1 HQ
    go_wp2_with fail
    generalize hV : w1.alloc (.cells (recA N) 25) = V1
    obtain ⟨X2, bb, zz⟩ := boxed hV
    have Y2 := Y1.below bb yl1
    have R2 : Hid (Rdr V1 K R q) := R1.out.below bb R1.out.lt
    have G2 := G1.trans (Ch.of bb (by omega))
    obtain ⟨M, hM⟩ : ∃ M, w1.heap.size = M := ⟨_, rfl⟩
    have HM : H < M := by omega
    rw [hM] at X2
    rw [hM]
    clear hM hV bb zz Y1 R1 G1 yl1
    refine (err_any _ K R q R2.out).mono ?_; rintro e W2 ⟨rfl, rfl⟩
    obtain ⟨er, her⟩ : ∃ er, q.e = er := ⟨_, rfl⟩
    rw [her] at EE' ET'
    rw [her]
    clear her
    have yl := Y2.lt
    have xl := X2.lt
    have x0 := X2.cell 0 _ rfl
    have x1 := X2.cell 1 _ rfl
    have x2 := X2.cell 2 _ rfl
    have x3 := X2.cell 3 _ rfl
    have x4 := X2.cell 4 _ rfl
    have x5 := X2.cell 5 _ rfl
    have x6 := X2.cell 6 _ rfl
    have x7 := X2.cell 7 _ rfl
    have x8 := X2.cell 8 _ rfl
    have c0 := Y2.cell 0 _ rfl
    have fc0 := Y2.froz 0
    have c1 := Y2.cell 1 _ rfl
    have fc1 := Y2.froz 1
    have c2 := Y2.cell 2 _ rfl
    have fc2 := Y2.froz 2
    have c3 := Y2.cell 3 _ rfl
    have fc3 := Y2.froz 3
    have c4 := Y2.cell 4 _ rfl
    have fc4 := Y2.froz 4
    have c5 := Y2.cell 5 _ rfl
    have fc5 := Y2.froz 5
    have c6 := Y2.cell 6 _ rfl
    have fc6 := Y2.froz 6
    have c7 := Y2.cell 7 _ rfl
    have fc7 := Y2.froz 7
    have c8 := Y2.cell 8 _ rfl
    have fc8 := Y2.froz 8
    by_cases e0 : er = 0
    · have ET2 : Hid (T = N) := by have h := ET'.out; rw [if_pos e0] at h; exact h
      subst e0
      clear ET'
      go_wp2_with fail
      have RB : Blk (((((((((W2.setCell ⟨H, 0, none⟩ (.int .i64 N.k)).setCell ⟨H, 1, none⟩ (.int .i64 N.i)).setCell ⟨H, 2, none⟩ (.int .i64 N.p0)).setCell ⟨H, 3, none⟩ (.int .i64 N.p1)).setCell ⟨H, 4, none⟩ (.int .i64 N.p2)).setCell ⟨H, 5, none⟩ (.int .i64 N.v0)).setCell ⟨H, 6, none⟩ (.int .i64 N.v1)).setCell ⟨H, 7, none⟩ (.int .i64 N.v2)).setCell ⟨H, 8, none⟩ (.int .u16 N.a)) H [.int .i64 N.k, .int .i64 N.i, .int .i64 N.p0, .int .i64 N.p1, .int .i64 N.p2, .int .i64 N.v0, .int .i64 N.v1, .int .i64 N.v2, .int .u16 N.a] := Y2.nine
      have GB : Ch R w (((((((((W2.setCell ⟨H, 0, none⟩ (.int .i64 N.k)).setCell ⟨H, 1, none⟩ (.int .i64 N.i)).setCell ⟨H, 2, none⟩ (.int .i64 N.p0)).setCell ⟨H, 3, none⟩ (.int .i64 N.p1)).setCell ⟨H, 4, none⟩ (.int .i64 N.p2)).setCell ⟨H, 5, none⟩ (.int .i64 N.v0)).setCell ⟨H, 6, none⟩ (.int .i64 N.v1)).setCell ⟨H, 7, none⟩ (.int .i64 N.v2)).setCell ⟨H, 8, none⟩ (.int .u16 N.a)) := ch_nine G2 (by omega) (by omega)
      have RR : Rdr (((((((((W2.setCell ⟨H, 0, none⟩ (.int .i64 N.k)).setCell ⟨H, 1, none⟩ (.int .i64 N.i)).setCell ⟨H, 2, none⟩ (.int .i64 N.p0)).setCell ⟨H, 3, none⟩ (.int .i64 N.p1)).setCell ⟨H, 4, none⟩ (.int .i64 N.p2)).setCell ⟨H, 5, none⟩ (.int .i64 N.v0)).setCell ⟨H, 6, none⟩ (.int .i64 N.v1)).setCell ⟨H, 7, none⟩ (.int .i64 N.v2)).setCell ⟨H, 8, none⟩ (.int .u16 N.a)) K R (q) := R2.out.ch ch9 (by omega) (by omega)
      generalize (((((((((W2.setCell ⟨H, 0, none⟩ (.int .i64 N.k)).setCell ⟨H, 1, none⟩ (.int .i64 N.i)).setCell ⟨H, 2, none⟩ (.int .i64 N.p0)).setCell ⟨H, 3, none⟩ (.int .i64 N.p1)).setCell ⟨H, 4, none⟩ (.int .i64 N.p2)).setCell ⟨H, 5, none⟩ (.int .i64 N.v0)).setCell ⟨H, 6, none⟩ (.int .i64 N.v1)).setCell ⟨H, 7, none⟩ (.int .i64 N.v2)).setCell ⟨H, 8, none⟩ (.int .u16 N.a)) = W9 at RB GB RR ⊢
      have q0 := RB.cell 0 _ rfl
      have q1 := RB.cell 1 _ rfl
      have q2 := RB.cell 2 _ rfl
      have q3 := RB.cell 3 _ rfl
      have q4 := RB.cell 4 _ rfl
      have q5 := RB.cell 5 _ rfl
      have q6 := RB.cell 6 _ rfl
      have q7 := RB.cell 7 _ rfl
      have q8 := RB.cell 8 _ rfl
      refine bodyPost_ret (v := .tuple #[recV N, .int .i64 0]) (by simp [results, Try.results18, go_sem, q0, q1, q2, q3, q4, q5, q6, q7, q8]) rfl ⟨by rw [ET2.out, EE'.out], by rw [EU'.out]; exact RR, GB⟩
    · have ET2 : Hid (T = noRec) := by have h := ET'.out; rw [if_neg e0] at h; exact h
      clear ET'
      go_wp2_with fail
      have RB : Blk (((((((((W2.setCell ⟨H, 0, none⟩ (.int .i64 0)).setCell ⟨H, 1, none⟩ (.int .i64 0)).setCell ⟨H, 2, none⟩ (.int .i64 0)).setCell ⟨H, 3, none⟩ (.int .i64 0)).setCell ⟨H, 4, none⟩ (.int .i64 0)).setCell ⟨H, 5, none⟩ (.int .i64 0)).setCell ⟨H, 6, none⟩ (.int .i64 0)).setCell ⟨H, 7, none⟩ (.int .i64 0)).setCell ⟨H, 8, none⟩ (.int .u16 0)) H [.int .i64 0, .int .i64 0, .int .i64 0, .int .i64 0, .int .i64 0, .int .i64 0, .int .i64 0, .int .i64 0, .int .u16 0] := Y2.nine
      have GB : Ch R w (((((((((W2.setCell ⟨H, 0, none⟩ (.int .i64 0)).setCell ⟨H, 1, none⟩ (.int .i64 0)).setCell ⟨H, 2, none⟩ (.int .i64 0)).setCell ⟨H, 3, none⟩ (.int .i64 0)).setCell ⟨H, 4, none⟩ (.int .i64 0)).setCell ⟨H, 5, none⟩ (.int .i64 0)).setCell ⟨H, 6, none⟩ (.int .i64 0)).setCell ⟨H, 7, none⟩ (.int .i64 0)).setCell ⟨H, 8, none⟩ (.int .u16 0)) := ch_nine G2 (by omega) (by omega)
      have RR : Rdr (((((((((W2.setCell ⟨H, 0, none⟩ (.int .i64 0)).setCell ⟨H, 1, none⟩ (.int .i64 0)).setCell ⟨H, 2, none⟩ (.int .i64 0)).setCell ⟨H, 3, none⟩ (.int .i64 0)).setCell ⟨H, 4, none⟩ (.int .i64 0)).setCell ⟨H, 5, none⟩ (.int .i64 0)).setCell ⟨H, 6, none⟩ (.int .i64 0)).setCell ⟨H, 7, none⟩ (.int .i64 0)).setCell ⟨H, 8, none⟩ (.int .u16 0)) K R (q) := R2.out.ch ch9 (by omega) (by omega)
      generalize (((((((((W2.setCell ⟨H, 0, none⟩ (.int .i64 0)).setCell ⟨H, 1, none⟩ (.int .i64 0)).setCell ⟨H, 2, none⟩ (.int .i64 0)).setCell ⟨H, 3, none⟩ (.int .i64 0)).setCell ⟨H, 4, none⟩ (.int .i64 0)).setCell ⟨H, 5, none⟩ (.int .i64 0)).setCell ⟨H, 6, none⟩ (.int .i64 0)).setCell ⟨H, 7, none⟩ (.int .i64 0)).setCell ⟨H, 8, none⟩ (.int .u16 0)) = W9 at RB GB RR ⊢
      have q0 := RB.cell 0 _ rfl
      have q1 := RB.cell 1 _ rfl
      have q2 := RB.cell 2 _ rfl
      have q3 := RB.cell 3 _ rfl
      have q4 := RB.cell 4 _ rfl
      have q5 := RB.cell 5 _ rfl
      have q6 := RB.cell 6 _ rfl
      have q7 := RB.cell 7 _ rfl
      have q8 := RB.cell 8 _ rfl
      refine bodyPost_ret (v := .tuple #[recV noRec, .int .i64 er]) (by simp [results, Try.results18, go_sem, noRec, q0, q1, q2, q3, q4, q5, q6, q7, q8]) rfl ⟨by rw [ET2.out, EE'.out], by rw [EU'.out]; exact RR, GB⟩
  · have LB : lastB last = false := by unfold lastB; rw [decide_eq_false hb]
    rw [decide_eq_false hb]
    have EU : Hid (U = s) := (by rw [← HU.out]; unfold redS; rw [LB]; rfl : U = s)
    have EE : Hid (E = 3) := (by rw [← HE.out]; unfold redE; rw [LB]; rfl : E = 3)
    have ET : Hid (T = noRec) := (by rw [← HT.out]; unfold redT; rw [LB]; rfl : T = noRec)
    clear HT HU HE LB
    have xl := X0.lt
    have c0 := X0.cell 0 _ rfl
    have fc0 := X0.froz 0
    have c1 := X0.cell 1 _ rfl
    have fc1 := X0.froz 1
    have c2 := X0.cell 2 _ rfl
    have fc2 := X0.froz 2
    have c3 := X0.cell 3 _ rfl
    have fc3 := X0.froz 3
    have c4 := X0.cell 4 _ rfl
    have fc4 := X0.froz 4
    have c5 := X0.cell 5 _ rfl
    have fc5 := X0.froz 5
    have c6 := X0.cell 6 _ rfl
    have fc6 := X0.froz 6
    have c7 := X0.cell 7 _ rfl
    have fc7 := X0.froz 7
    have c8 := X0.cell 8 _ rfl
    have fc8 := X0.froz 8
    go_wp2_with fail
    have RB : Blk (((((((((W'.setCell ⟨H, 0, none⟩ (.int .i64 0)).setCell ⟨H, 1, none⟩ (.int .i64 0)).setCell ⟨H, 2, none⟩ (.int .i64 0)).setCell ⟨H, 3, none⟩ (.int .i64 0)).setCell ⟨H, 4, none⟩ (.int .i64 0)).setCell ⟨H, 5, none⟩ (.int .i64 0)).setCell ⟨H, 6, none⟩ (.int .i64 0)).setCell ⟨H, 7, none⟩ (.int .i64 0)).setCell ⟨H, 8, none⟩ (.int .u16 0)) H [.int .i64 0, .int .i64 0, .int .i64 0, .int .i64 0, .int .i64 0, .int .i64 0, .int .i64 0, .int .i64 0, .int .u16 0] := X0.nine
    have GB : Ch R w (((((((((W'.setCell ⟨H, 0, none⟩ (.int .i64 0)).setCell ⟨H, 1, none⟩ (.int .i64 0)).setCell ⟨H, 2, none⟩ (.int .i64 0)).setCell ⟨H, 3, none⟩ (.int .i64 0)).setCell ⟨H, 4, none⟩ (.int .i64 0)).setCell ⟨H, 5, none⟩ (.int .i64 0)).setCell ⟨H, 6, none⟩ (.int .i64 0)).setCell ⟨H, 7, none⟩ (.int .i64 0)).setCell ⟨H, 8, none⟩ (.int .u16 0)) := ch_nine G0 (by omega) (by omega)
    have RR : Rdr (((((((((W'.setCell ⟨H, 0, none⟩ (.int .i64 0)).setCell ⟨H, 1, none⟩ (.int .i64 0)).setCell ⟨H, 2, none⟩ (.int .i64 0)).setCell ⟨H, 3, none⟩ (.int .i64 0)).setCell ⟨H, 4, none⟩ (.int .i64 0)).setCell ⟨H, 5, none⟩ (.int .i64 0)).setCell ⟨H, 6, none⟩ (.int .i64 0)).setCell ⟨H, 7, none⟩ (.int .i64 0)).setCell ⟨H, 8, none⟩ (.int .u16 0)) K R (s) := R0.out.ch ch9 (by omega) (by omega)
    generalize (((((((((W'.setCell ⟨H, 0, none⟩ (.int .i64 0)).setCell ⟨H, 1, none⟩ (.int .i64 0)).setCell ⟨H, 2, none⟩ (.int .i64 0)).setCell ⟨H, 3, none⟩ (.int .i64 0)).setCell ⟨H, 4, none⟩ (.int .i64 0)).setCell ⟨H, 5, none⟩ (.int .i64 0)).setCell ⟨H, 6, none⟩ (.int .i64 0)).setCell ⟨H, 7, none⟩ (.int .i64 0)).setCell ⟨H, 8, none⟩ (.int .u16 0)) = W9 at RB GB RR ⊢
    have q0 := RB.cell 0 _ rfl
    have q1 := RB.cell 1 _ rfl
    have q2 := RB.cell 2 _ rfl
    have q3 := RB.cell 3 _ rfl
    have q4 := RB.cell 4 _ rfl
    have q5 := RB.cell 5 _ rfl
    have q6 := RB.cell 6 _ rfl
    have q7 := RB.cell 7 _ rfl
    have q8 := RB.cell 8 _ rfl
    refine bodyPost_ret (v := .tuple #[recV noRec, .int .i64 3]) (by simp [results, Try.results18, go_sem, noRec, q0, q1, q2, q3, q4, q5, q6, q7, q8]) rfl ⟨by rw [ET.out, EE.out], by rw [EU.out]; exact RR, GB⟩
set_option maxRecDepth 8000 in
theorem rec_read_nil (w : World) (last : Int) : Calls Try.prog 18 #[.pointer none, .int .i64 last] w fun e w' =>
    e = .returned (.tuple #[recV noRec, .int .i64 1]) ∧ Below w.heap.size w w' := by
  go_enter Try.func18, Try.ntmps18
  go_wp2_with fail
  refine bodyPost_ret (v := .tuple #[recV noRec, .int .i64 1]) (by simp [results, Try.results18, go_sem, noRec]) rfl ⟨rfl, (Below.refl _ _).alloc (Nat.le_refl _) _⟩
end Go.Proofs.Ytjjaodlgnoiheaa
