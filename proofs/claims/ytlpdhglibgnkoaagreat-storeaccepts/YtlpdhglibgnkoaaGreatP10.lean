/-
  Texts Rec10 in one.
-/
import Derived.Test.YtlpdhglibgnkoaaGreatP9
namespace Go.Proofs.YtlpdhglibgnkoaaGreat
open Go.RowKit
set_option linter.unusedVariables false
attribute [local go_sem ↓] eqR_run eqE_run eq6_run

/-- An entity with an Update's differences added. -/
def addE (a : En) (r : Rc) : En := ⟨a.i, wrap64 (a.p0 + r.p0), wrap64 (a.p1 + r.p1), wrap64 (a.p2 + r.p2), wrap64 (a.v0 + r.v0), wrap64 (a.v1 + r.v1), wrap64 (a.v2 + r.v2), IntKind.u16.wrap (a.a + r.a), a.g⟩
/-- An entity that is elsewhere at once. -/
def jumpE (a : En) (r : Rc) : En := ⟨a.i, r.p0, r.p1, r.p2, r.v0, r.v1, r.v2, r.a, (a.g + 1) % 256⟩
def appE (a : En) (r : Rc) : Int := if chk r = 0 then (if r.k = 0 ∨ r.k = 2 ∨ r.i ≠ a.i then 15 else 0) else chk r
def appN (a : En) (r : Rc) : En := if appE a r = 0 then (if r.k = 3 then jumpE a r else addE a r) else noEnt
theorem boxed3 {w W : World} {a b c : Array Value} {t1 t2 t3 : TypeId} (h : ((w.alloc (.cells a t1)).alloc (.cells b t2)).alloc (.cells c t3) = W) :
    Blk W w.heap.size a.toList ∧ Blk W (w.heap.size + 1) b.toList ∧ Blk W (w.heap.size + 1 + 1) c.toList ∧ Below w.heap.size w W ∧ W.heap.size = w.heap.size + 1 + 1 + 1 := by
  subst h
  refine ⟨((Blk.new w _ _ rfl).alloc _).alloc _, (Blk.new _ _ _ (by simp)).alloc _, Blk.new _ _ _ (by simp), ?_, by simp⟩
  exact (((Below.refl _ _).alloc (Nat.le_refl _) _).alloc (by simp) _).alloc (by simp; omega) _
set_option maxRecDepth 8000 in
set_option maxHeartbeats 4000000 in
theorem rec_apply (w : World) (a : En) (r : Rc) : Calls Tryz.prog 83 #[entV a, recV r] w fun e w' => e = .returned (.tuple #[entV (appN a r), .int .i64 (appE a r)]) ∧ Below w.heap.size w w' := by
  obtain ⟨ai, ap0, ap1, ap2, av0, av1, av2, aa, ag⟩ := a
  obtain ⟨rk, ri, rp0, rp1, rp2, rv0, rv1, rv2, ra⟩ := r
  obtain ⟨c, hc⟩ : ∃ c, chk ⟨rk, ri, rp0, rp1, rp2, rv0, rv1, rv2, ra⟩ = c := ⟨_, rfl⟩
  obtain ⟨er, her⟩ : ∃ er, appE ⟨ai, ap0, ap1, ap2, av0, av1, av2, aa, ag⟩ ⟨rk, ri, rp0, rp1, rp2, rv0, rv1, rv2, ra⟩ = er := ⟨_, rfl⟩
  obtain ⟨N, hN⟩ : ∃ N, appN ⟨ai, ap0, ap1, ap2, av0, av1, av2, aa, ag⟩ ⟨rk, ri, rp0, rp1, rp2, rv0, rv1, rv2, ra⟩ = N := ⟨_, rfl⟩
  have HC : Hid (chk ⟨rk, ri, rp0, rp1, rp2, rv0, rv1, rv2, ra⟩ = c) := hc
  have HE : Hid (er = if c = 0 then (if rk = 0 ∨ rk = 2 ∨ ri ≠ ai then 15 else 0) else c) := by rw [← her, ← hc]; rfl
  have HN : Hid (N = if er = 0 then (if rk = 3 then jumpE ⟨ai, ap0, ap1, ap2, av0, av1, av2, aa, ag⟩ ⟨rk, ri, rp0, rp1, rp2, rv0, rv1, rv2, ra⟩ else addE ⟨ai, ap0, ap1, ap2, av0, av1, av2, aa, ag⟩ ⟨rk, ri, rp0, rp1, rp2, rv0, rv1, rv2, ra⟩) else noEnt) := by rw [← hN, ← her]; rfl
  rw [her, hN]
  clear hc her hN
  go_enter Tryz.func83, Tryz.ntmps83
  go_wp2_with fail
  generalize hW : ((w.alloc (.cells (entA ⟨ai, ap0, ap1, ap2, av0, av1, av2, aa, ag⟩) 69)).alloc (.cells (recA ⟨rk, ri, rp0, rp1, rp2, rv0, rv1, rv2, ra⟩) 107)).alloc (.cells (entA ⟨0, 0, 0, 0, 0, 0, 0, 0, 0⟩) 69) = W
  obtain ⟨A0, X0, R0, L0, Z0⟩ := boxed3 hW
  clear hW
  refine (rec_check _ ⟨rk, ri, rp0, rp1, rp2, rv0, rv1, rv2, ra⟩).mono ?_; rw [HC.out]; rintro e' w1 ⟨rfl, b1⟩
  have A1 := A0.below b1 (by omega)
  have X1 := X0.below b1 (by omega)
  have R1 := R0.below b1 (by omega)
  have LL : Hid (Below w.heap.size w w1) := bthen L0 b1
  obtain ⟨H, hH⟩ : ∃ H, w.heap.size = H := ⟨_, rfl⟩
  rw [hH] at A1 X1 R1 LL
  rw [hH]
  have HH : Hid (w.heap.size = H) := hH
  clear hH L0 Z0 A0 X0 R0 b1
  have la := A1.lt
  have lx := X1.lt
  have lr := R1.lt
  have x0 := X1.cell 0 _ rfl
  have x1 := X1.cell 1 _ rfl
  have y0 := A1.cell 0 _ rfl
  have d0 := R1.cell 0 _ rfl
  have f0 := R1.froz 0
  have d1 := R1.cell 1 _ rfl
  have f1 := R1.froz 1
  have d2 := R1.cell 2 _ rfl
  have f2 := R1.froz 2
  have d3 := R1.cell 3 _ rfl
  have f3 := R1.froz 3
  have d4 := R1.cell 4 _ rfl
  have f4 := R1.froz 4
  have d5 := R1.cell 5 _ rfl
  have f5 := R1.froz 5
  have d6 := R1.cell 6 _ rfl
  have f6 := R1.froz 6
  have d7 := R1.cell 7 _ rfl
  have f7 := R1.froz 7
  have d8 := R1.cell 8 _ rfl
  have f8 := R1.froz 8
  by_cases h0 : c = 0
  · have HE2 : Hid (er = if rk = 0 ∨ rk = 2 ∨ ri ≠ ai then 15 else 0) := by have h := HE.out; rw [if_pos h0] at h; exact h
    clear HE
    have CK := chk_ok (r := ⟨rk, ri, rp0, rp1, rp2, rv0, rv1, rv2, ra⟩) (by rw [HC.out]; exact h0)
    obtain ⟨⟨k0, k1⟩, _, _, _⟩ := CK
    simp only at k0 k1
    subst h0
    by_cases g0 : rk = 0
    · have e15 : er = 15 := by rw [HE2.out, if_pos (Or.inl g0)]
      have NN : Hid (N = noEnt) := by have h := HN.out; rw [if_neg (by omega)] at h; exact h
      clear HN HE2 HC
      subst g0 e15
      go_wp2_with fail
      have RB : Blk (((((((((w1.setCell ⟨H + 1 + 1, 0, none⟩ (.int .i64 0)).setCell ⟨H + 1 + 1, 1, none⟩ (.int .i64 0)).setCell ⟨H + 1 + 1, 2, none⟩ (.int .i64 0)).setCell ⟨H + 1 + 1, 3, none⟩ (.int .i64 0)).setCell ⟨H + 1 + 1, 4, none⟩ (.int .i64 0)).setCell ⟨H + 1 + 1, 5, none⟩ (.int .i64 0)).setCell ⟨H + 1 + 1, 6, none⟩ (.int .i64 0)).setCell ⟨H + 1 + 1, 7, none⟩ (.int .u16 0)).setCell ⟨H + 1 + 1, 8, none⟩ (.int .u8 0)) (H + 1 + 1) [.int .i64 0, .int .i64 0, .int .i64 0, .int .i64 0, .int .i64 0, .int .i64 0, .int .i64 0, .int .u16 0, .int .u8 0] := R1.nine
      have LB : Below H w (((((((((w1.setCell ⟨H + 1 + 1, 0, none⟩ (.int .i64 0)).setCell ⟨H + 1 + 1, 1, none⟩ (.int .i64 0)).setCell ⟨H + 1 + 1, 2, none⟩ (.int .i64 0)).setCell ⟨H + 1 + 1, 3, none⟩ (.int .i64 0)).setCell ⟨H + 1 + 1, 4, none⟩ (.int .i64 0)).setCell ⟨H + 1 + 1, 5, none⟩ (.int .i64 0)).setCell ⟨H + 1 + 1, 6, none⟩ (.int .i64 0)).setCell ⟨H + 1 + 1, 7, none⟩ (.int .u16 0)).setCell ⟨H + 1 + 1, 8, none⟩ (.int .u8 0)) := below_nine LL.out (by omega)
      generalize (((((((((w1.setCell ⟨H + 1 + 1, 0, none⟩ (.int .i64 0)).setCell ⟨H + 1 + 1, 1, none⟩ (.int .i64 0)).setCell ⟨H + 1 + 1, 2, none⟩ (.int .i64 0)).setCell ⟨H + 1 + 1, 3, none⟩ (.int .i64 0)).setCell ⟨H + 1 + 1, 4, none⟩ (.int .i64 0)).setCell ⟨H + 1 + 1, 5, none⟩ (.int .i64 0)).setCell ⟨H + 1 + 1, 6, none⟩ (.int .i64 0)).setCell ⟨H + 1 + 1, 7, none⟩ (.int .u16 0)).setCell ⟨H + 1 + 1, 8, none⟩ (.int .u8 0)) = W9 at RB LB ⊢
      have e0 := RB.cell 0 _ rfl
      have e1 := RB.cell 1 _ rfl
      have e2 := RB.cell 2 _ rfl
      have e3 := RB.cell 3 _ rfl
      have e4 := RB.cell 4 _ rfl
      have e5 := RB.cell 5 _ rfl
      have e6 := RB.cell 6 _ rfl
      have e7 := RB.cell 7 _ rfl
      have e8 := RB.cell 8 _ rfl
      refine bodyPost_ret (v := .tuple #[entV noEnt, .int .i64 15]) (by simp [results, Tryz.results83, go_sem, noEnt, e0, e1, e2, e3, e4, e5, e6, e7, e8]) rfl ⟨by rw [NN.out]; first | done | rfl, by rw [HH.out]; exact LB⟩
    by_cases g2 : rk = 2
    · have e15 : er = 15 := by rw [HE2.out, if_pos (Or.inr (Or.inl g2))]
      have NN : Hid (N = noEnt) := by have h := HN.out; rw [if_neg (by omega)] at h; exact h
      clear HN HE2 HC
      subst g2 e15
      go_wp2_with fail
      have RB : Blk (((((((((w1.setCell ⟨H + 1 + 1, 0, none⟩ (.int .i64 0)).setCell ⟨H + 1 + 1, 1, none⟩ (.int .i64 0)).setCell ⟨H + 1 + 1, 2, none⟩ (.int .i64 0)).setCell ⟨H + 1 + 1, 3, none⟩ (.int .i64 0)).setCell ⟨H + 1 + 1, 4, none⟩ (.int .i64 0)).setCell ⟨H + 1 + 1, 5, none⟩ (.int .i64 0)).setCell ⟨H + 1 + 1, 6, none⟩ (.int .i64 0)).setCell ⟨H + 1 + 1, 7, none⟩ (.int .u16 0)).setCell ⟨H + 1 + 1, 8, none⟩ (.int .u8 0)) (H + 1 + 1) [.int .i64 0, .int .i64 0, .int .i64 0, .int .i64 0, .int .i64 0, .int .i64 0, .int .i64 0, .int .u16 0, .int .u8 0] := R1.nine
      have LB : Below H w (((((((((w1.setCell ⟨H + 1 + 1, 0, none⟩ (.int .i64 0)).setCell ⟨H + 1 + 1, 1, none⟩ (.int .i64 0)).setCell ⟨H + 1 + 1, 2, none⟩ (.int .i64 0)).setCell ⟨H + 1 + 1, 3, none⟩ (.int .i64 0)).setCell ⟨H + 1 + 1, 4, none⟩ (.int .i64 0)).setCell ⟨H + 1 + 1, 5, none⟩ (.int .i64 0)).setCell ⟨H + 1 + 1, 6, none⟩ (.int .i64 0)).setCell ⟨H + 1 + 1, 7, none⟩ (.int .u16 0)).setCell ⟨H + 1 + 1, 8, none⟩ (.int .u8 0)) := below_nine LL.out (by omega)
      generalize (((((((((w1.setCell ⟨H + 1 + 1, 0, none⟩ (.int .i64 0)).setCell ⟨H + 1 + 1, 1, none⟩ (.int .i64 0)).setCell ⟨H + 1 + 1, 2, none⟩ (.int .i64 0)).setCell ⟨H + 1 + 1, 3, none⟩ (.int .i64 0)).setCell ⟨H + 1 + 1, 4, none⟩ (.int .i64 0)).setCell ⟨H + 1 + 1, 5, none⟩ (.int .i64 0)).setCell ⟨H + 1 + 1, 6, none⟩ (.int .i64 0)).setCell ⟨H + 1 + 1, 7, none⟩ (.int .u16 0)).setCell ⟨H + 1 + 1, 8, none⟩ (.int .u8 0)) = W9 at RB LB ⊢
      have e0 := RB.cell 0 _ rfl
      have e1 := RB.cell 1 _ rfl
      have e2 := RB.cell 2 _ rfl
      have e3 := RB.cell 3 _ rfl
      have e4 := RB.cell 4 _ rfl
      have e5 := RB.cell 5 _ rfl
      have e6 := RB.cell 6 _ rfl
      have e7 := RB.cell 7 _ rfl
      have e8 := RB.cell 8 _ rfl
      refine bodyPost_ret (v := .tuple #[entV noEnt, .int .i64 15]) (by simp [results, Tryz.results83, go_sem, noEnt, e0, e1, e2, e3, e4, e5, e6, e7, e8]) rfl ⟨by rw [NN.out]; first | done | rfl, by rw [HH.out]; exact LB⟩
    by_cases gi : ri = ai
    · have e0' : er = 0 := by rw [HE2.out, if_neg (by omega)]
      have NN : Hid (N = if rk = 3 then jumpE ⟨ai, ap0, ap1, ap2, av0, av1, av2, aa, ag⟩ ⟨rk, ri, rp0, rp1, rp2, rv0, rv1, rv2, ra⟩ else addE ⟨ai, ap0, ap1, ap2, av0, av1, av2, aa, ag⟩ ⟨rk, ri, rp0, rp1, rp2, rv0, rv1, rv2, ra⟩) := by have h := HN.out; rw [if_pos e0'] at h; exact h
      clear HN HE2 HC
      subst gi e0'
      by_cases g3 : rk = 3
      · have NJ : Hid (N = jumpE ⟨ri, ap0, ap1, ap2, av0, av1, av2, aa, ag⟩ ⟨rk, ri, rp0, rp1, rp2, rv0, rv1, rv2, ra⟩) := by have h := NN.out; rw [if_pos g3] at h; exact h
        clear NN
        subst g3
        have x2 := X1.cell 2 _ rfl
        have x3 := X1.cell 3 _ rfl
        have x4 := X1.cell 4 _ rfl
        have x5 := X1.cell 5 _ rfl
        have x6 := X1.cell 6 _ rfl
        have x7 := X1.cell 7 _ rfl
        have x8 := X1.cell 8 _ rfl
        have y8 := A1.cell 8 _ rfl
        go_wp2_with fail
        have RB : Blk (((((((((w1.setCell ⟨H + 1 + 1, 0, none⟩ (.int .i64 ri)).setCell ⟨H + 1 + 1, 1, none⟩ (.int .i64 rp0)).setCell ⟨H + 1 + 1, 2, none⟩ (.int .i64 rp1)).setCell ⟨H + 1 + 1, 3, none⟩ (.int .i64 rp2)).setCell ⟨H + 1 + 1, 4, none⟩ (.int .i64 rv0)).setCell ⟨H + 1 + 1, 5, none⟩ (.int .i64 rv1)).setCell ⟨H + 1 + 1, 6, none⟩ (.int .i64 rv2)).setCell ⟨H + 1 + 1, 7, none⟩ (.int .u16 ra)).setCell ⟨H + 1 + 1, 8, none⟩ (.int .u8 ((ag + 1) % 256))) (H + 1 + 1) [.int .i64 ri, .int .i64 rp0, .int .i64 rp1, .int .i64 rp2, .int .i64 rv0, .int .i64 rv1, .int .i64 rv2, .int .u16 ra, .int .u8 ((ag + 1) % 256)] := R1.nine
        have LB : Below H w (((((((((w1.setCell ⟨H + 1 + 1, 0, none⟩ (.int .i64 ri)).setCell ⟨H + 1 + 1, 1, none⟩ (.int .i64 rp0)).setCell ⟨H + 1 + 1, 2, none⟩ (.int .i64 rp1)).setCell ⟨H + 1 + 1, 3, none⟩ (.int .i64 rp2)).setCell ⟨H + 1 + 1, 4, none⟩ (.int .i64 rv0)).setCell ⟨H + 1 + 1, 5, none⟩ (.int .i64 rv1)).setCell ⟨H + 1 + 1, 6, none⟩ (.int .i64 rv2)).setCell ⟨H + 1 + 1, 7, none⟩ (.int .u16 ra)).setCell ⟨H + 1 + 1, 8, none⟩ (.int .u8 ((ag + 1) % 256))) := below_nine LL.out (by omega)
        generalize (((((((((w1.setCell ⟨H + 1 + 1, 0, none⟩ (.int .i64 ri)).setCell ⟨H + 1 + 1, 1, none⟩ (.int .i64 rp0)).setCell ⟨H + 1 + 1, 2, none⟩ (.int .i64 rp1)).setCell ⟨H + 1 + 1, 3, none⟩ (.int .i64 rp2)).setCell ⟨H + 1 + 1, 4, none⟩ (.int .i64 rv0)).setCell ⟨H + 1 + 1, 5, none⟩ (.int .i64 rv1)).setCell ⟨H + 1 + 1, 6, none⟩ (.int .i64 rv2)).setCell ⟨H + 1 + 1, 7, none⟩ (.int .u16 ra)).setCell ⟨H + 1 + 1, 8, none⟩ (.int .u8 ((ag + 1) % 256))) = W9 at RB LB ⊢
        have e0 := RB.cell 0 _ rfl
        have e1 := RB.cell 1 _ rfl
        have e2 := RB.cell 2 _ rfl
        have e3 := RB.cell 3 _ rfl
        have e4 := RB.cell 4 _ rfl
        have e5 := RB.cell 5 _ rfl
        have e6 := RB.cell 6 _ rfl
        have e7 := RB.cell 7 _ rfl
        have e8 := RB.cell 8 _ rfl
        refine bodyPost_ret (v := .tuple #[entV (jumpE ⟨ri, ap0, ap1, ap2, av0, av1, av2, aa, ag⟩ ⟨3, ri, rp0, rp1, rp2, rv0, rv1, rv2, ra⟩), .int .i64 0]) (by simp [results, Tryz.results83, go_sem, jumpE, e0, e1, e2, e3, e4, e5, e6, e7, e8]) rfl ⟨by rw [NJ.out]; first | done | rfl, by rw [HH.out]; exact LB⟩
      · have NA : Hid (N = addE ⟨ri, ap0, ap1, ap2, av0, av1, av2, aa, ag⟩ ⟨rk, ri, rp0, rp1, rp2, rv0, rv1, rv2, ra⟩) := by have h := NN.out; rw [if_neg g3] at h; exact h
        clear NN
        obtain rfl : rk = 1 := by omega
        go_wp2_with fail
        have X0 := X1
        have A0 := A1
        have R0 := R1
        have LL0 := LL
        clear x0 x1 y0 X1 A1 R1 LL d0 f0 d1 f1 d2 f2 d3 f3 d4 f4 d5 f5 d6 f6 d7 f7 d8 f8
        refine wp_loop_rounds 4 ?_
        rw [rounds_succ]
        have ca := A0.cell 1 _ rfl
        have fa := A0.froz 1
        have cx := X0.cell 2 _ rfl
        have la' := A0.lt
        have lx' := X0.lt
        go_wp2_with fail
        go_region
        have X1 := X0.far (c := H) (j := 1) (by omega) (.int .i64 (wrap64 (ap0 + rp0)))
        have R1 := R0.far (c := H) (j := 1) (by omega) (.int .i64 (wrap64 (ap0 + rp0)))
        have A1 := A0.put (j := 1) (.int .i64 (wrap64 (ap0 + rp0))) (by simp)
        simp only [List.set] at A1
        have LL1 : Hid (Below H w (w1.setCell ⟨H, 1, none⟩ (.int .i64 (wrap64 (ap0 + rp0)))).drew) := (LL0.out.setCell (by exact Nat.le_refl H) _).drew
        generalize (w1.setCell ⟨H, 1, none⟩ (.int .i64 (wrap64 (ap0 + rp0)))).drew = V1 at A1 X1 R1 LL1 ⊢
        clear ca fa cx la' lx' A0 X0 R0 LL0
        have ca := A1.cell 4 _ rfl
        have fa := A1.froz 4
        have cx := X1.cell 5 _ rfl
        have la' := A1.lt
        have lx' := X1.lt
        go_wp2_with fail
        go_region
        have X2 := X1.far (c := H) (j := 4) (by omega) (.int .i64 (wrap64 (av0 + rv0)))
        have R2 := R1.far (c := H) (j := 4) (by omega) (.int .i64 (wrap64 (av0 + rv0)))
        have A2 := A1.put (j := 4) (.int .i64 (wrap64 (av0 + rv0))) (by simp)
        simp only [List.set] at A2
        have LL2 : Hid (Below H w (V1.setCell ⟨H, 4, none⟩ (.int .i64 (wrap64 (av0 + rv0)))).drew) := (LL1.out.setCell (by exact Nat.le_refl H) _).drew
        generalize (V1.setCell ⟨H, 4, none⟩ (.int .i64 (wrap64 (av0 + rv0)))).drew = V2 at A2 X2 R2 LL2 ⊢
        clear ca fa cx la' lx' A1 X1 R1 LL1
        go_wp2_with fail
        rw [rounds_succ]
        have ca := A2.cell 2 _ rfl
        have fa := A2.froz 2
        have cx := X2.cell 3 _ rfl
        have la' := A2.lt
        have lx' := X2.lt
        go_wp2_with fail
        go_region
        have X3 := X2.far (c := H) (j := 2) (by omega) (.int .i64 (wrap64 (ap1 + rp1)))
        have R3 := R2.far (c := H) (j := 2) (by omega) (.int .i64 (wrap64 (ap1 + rp1)))
        have A3 := A2.put (j := 2) (.int .i64 (wrap64 (ap1 + rp1))) (by simp)
        simp only [List.set] at A3
        have LL3 : Hid (Below H w (V2.setCell ⟨H, 2, none⟩ (.int .i64 (wrap64 (ap1 + rp1)))).drew) := (LL2.out.setCell (by exact Nat.le_refl H) _).drew
        generalize (V2.setCell ⟨H, 2, none⟩ (.int .i64 (wrap64 (ap1 + rp1)))).drew = V3 at A3 X3 R3 LL3 ⊢
        clear ca fa cx la' lx' A2 X2 R2 LL2
        have ca := A3.cell 5 _ rfl
        have fa := A3.froz 5
        have cx := X3.cell 6 _ rfl
        have la' := A3.lt
        have lx' := X3.lt
        go_wp2_with fail
        go_region
        have X4 := X3.far (c := H) (j := 5) (by omega) (.int .i64 (wrap64 (av1 + rv1)))
        have R4 := R3.far (c := H) (j := 5) (by omega) (.int .i64 (wrap64 (av1 + rv1)))
        have A4 := A3.put (j := 5) (.int .i64 (wrap64 (av1 + rv1))) (by simp)
        simp only [List.set] at A4
        have LL4 : Hid (Below H w (V3.setCell ⟨H, 5, none⟩ (.int .i64 (wrap64 (av1 + rv1)))).drew) := (LL3.out.setCell (by exact Nat.le_refl H) _).drew
        generalize (V3.setCell ⟨H, 5, none⟩ (.int .i64 (wrap64 (av1 + rv1)))).drew = V4 at A4 X4 R4 LL4 ⊢
        clear ca fa cx la' lx' A3 X3 R3 LL3
        go_wp2_with fail
        rw [rounds_succ]
        have ca := A4.cell 3 _ rfl
        have fa := A4.froz 3
        have cx := X4.cell 4 _ rfl
        have la' := A4.lt
        have lx' := X4.lt
        go_wp2_with fail
        go_region
        have X5 := X4.far (c := H) (j := 3) (by omega) (.int .i64 (wrap64 (ap2 + rp2)))
        have R5 := R4.far (c := H) (j := 3) (by omega) (.int .i64 (wrap64 (ap2 + rp2)))
        have A5 := A4.put (j := 3) (.int .i64 (wrap64 (ap2 + rp2))) (by simp)
        simp only [List.set] at A5
        have LL5 : Hid (Below H w (V4.setCell ⟨H, 3, none⟩ (.int .i64 (wrap64 (ap2 + rp2)))).drew) := (LL4.out.setCell (by exact Nat.le_refl H) _).drew
        generalize (V4.setCell ⟨H, 3, none⟩ (.int .i64 (wrap64 (ap2 + rp2)))).drew = V5 at A5 X5 R5 LL5 ⊢
        clear ca fa cx la' lx' A4 X4 R4 LL4
        have ca := A5.cell 6 _ rfl
        have fa := A5.froz 6
        have cx := X5.cell 7 _ rfl
        have la' := A5.lt
        have lx' := X5.lt
        go_wp2_with fail
        go_region
        have X6 := X5.far (c := H) (j := 6) (by omega) (.int .i64 (wrap64 (av2 + rv2)))
        have R6 := R5.far (c := H) (j := 6) (by omega) (.int .i64 (wrap64 (av2 + rv2)))
        have A6 := A5.put (j := 6) (.int .i64 (wrap64 (av2 + rv2))) (by simp)
        simp only [List.set] at A6
        have LL6 : Hid (Below H w (V5.setCell ⟨H, 6, none⟩ (.int .i64 (wrap64 (av2 + rv2)))).drew) := (LL5.out.setCell (by exact Nat.le_refl H) _).drew
        generalize (V5.setCell ⟨H, 6, none⟩ (.int .i64 (wrap64 (av2 + rv2)))).drew = V6 at A6 X6 R6 LL6 ⊢
        clear ca fa cx la' lx' A5 X5 R5 LL5
        go_wp2_with fail
        rw [rounds_succ]
        have la' := A6.lt
        have lx' := X6.lt
        have lr' := R6.lt
        have x8 := X6.cell 8 _ rfl
        have fa7 := A6.froz 7
        have a0' := A6.cell 0 _ rfl
        have d0 := R6.cell 0 _ rfl
        have f0 := R6.froz 0
        have a1' := A6.cell 1 _ rfl
        have d1 := R6.cell 1 _ rfl
        have f1 := R6.froz 1
        have a2' := A6.cell 2 _ rfl
        have d2 := R6.cell 2 _ rfl
        have f2 := R6.froz 2
        have a3' := A6.cell 3 _ rfl
        have d3 := R6.cell 3 _ rfl
        have f3 := R6.froz 3
        have a4' := A6.cell 4 _ rfl
        have d4 := R6.cell 4 _ rfl
        have f4 := R6.froz 4
        have a5' := A6.cell 5 _ rfl
        have d5 := R6.cell 5 _ rfl
        have f5 := R6.froz 5
        have a6' := A6.cell 6 _ rfl
        have d6 := R6.cell 6 _ rfl
        have f6 := R6.froz 6
        have a7' := A6.cell 7 _ rfl
        have d7 := R6.cell 7 _ rfl
        have f7 := R6.froz 7
        have a8' := A6.cell 8 _ rfl
        have d8 := R6.cell 8 _ rfl
        have f8 := R6.froz 8
        go_wp2_with fail
        have R7 := R6.other (p := ⟨H, 7, none⟩) (show H ≠ H + 1 + 1 by omega) (.int .u16 (IntKind.u16.wrap (aa + ra)))
        have LL7 : Hid (Below H w (V6.setCell ⟨H, 7, none⟩ (.int .u16 (IntKind.u16.wrap (aa + ra))))) := LL6.out.setCell (by exact Nat.le_refl H) _
        have RB : Blk ((((((((((V6.setCell ⟨H, 7, none⟩ (.int .u16 (IntKind.u16.wrap (aa + ra)))).setCell ⟨H + 1 + 1, 0, none⟩ (.int .i64 ri)).setCell ⟨H + 1 + 1, 1, none⟩ (.int .i64 (wrap64 (ap0 + rp0)))).setCell ⟨H + 1 + 1, 2, none⟩ (.int .i64 (wrap64 (ap1 + rp1)))).setCell ⟨H + 1 + 1, 3, none⟩ (.int .i64 (wrap64 (ap2 + rp2)))).setCell ⟨H + 1 + 1, 4, none⟩ (.int .i64 (wrap64 (av0 + rv0)))).setCell ⟨H + 1 + 1, 5, none⟩ (.int .i64 (wrap64 (av1 + rv1)))).setCell ⟨H + 1 + 1, 6, none⟩ (.int .i64 (wrap64 (av2 + rv2)))).setCell ⟨H + 1 + 1, 7, none⟩ (.int .u16 (IntKind.u16.wrap (aa + ra)))).setCell ⟨H + 1 + 1, 8, none⟩ (.int .u8 ag)) (H + 1 + 1) [.int .i64 ri, .int .i64 (wrap64 (ap0 + rp0)), .int .i64 (wrap64 (ap1 + rp1)), .int .i64 (wrap64 (ap2 + rp2)), .int .i64 (wrap64 (av0 + rv0)), .int .i64 (wrap64 (av1 + rv1)), .int .i64 (wrap64 (av2 + rv2)), .int .u16 (IntKind.u16.wrap (aa + ra)), .int .u8 ag] := R7.nine
        have LB : Below H w ((((((((((V6.setCell ⟨H, 7, none⟩ (.int .u16 (IntKind.u16.wrap (aa + ra)))).setCell ⟨H + 1 + 1, 0, none⟩ (.int .i64 ri)).setCell ⟨H + 1 + 1, 1, none⟩ (.int .i64 (wrap64 (ap0 + rp0)))).setCell ⟨H + 1 + 1, 2, none⟩ (.int .i64 (wrap64 (ap1 + rp1)))).setCell ⟨H + 1 + 1, 3, none⟩ (.int .i64 (wrap64 (ap2 + rp2)))).setCell ⟨H + 1 + 1, 4, none⟩ (.int .i64 (wrap64 (av0 + rv0)))).setCell ⟨H + 1 + 1, 5, none⟩ (.int .i64 (wrap64 (av1 + rv1)))).setCell ⟨H + 1 + 1, 6, none⟩ (.int .i64 (wrap64 (av2 + rv2)))).setCell ⟨H + 1 + 1, 7, none⟩ (.int .u16 (IntKind.u16.wrap (aa + ra)))).setCell ⟨H + 1 + 1, 8, none⟩ (.int .u8 ag)) := below_nine LL7.out (by omega)
        generalize ((((((((((V6.setCell ⟨H, 7, none⟩ (.int .u16 (IntKind.u16.wrap (aa + ra)))).setCell ⟨H + 1 + 1, 0, none⟩ (.int .i64 ri)).setCell ⟨H + 1 + 1, 1, none⟩ (.int .i64 (wrap64 (ap0 + rp0)))).setCell ⟨H + 1 + 1, 2, none⟩ (.int .i64 (wrap64 (ap1 + rp1)))).setCell ⟨H + 1 + 1, 3, none⟩ (.int .i64 (wrap64 (ap2 + rp2)))).setCell ⟨H + 1 + 1, 4, none⟩ (.int .i64 (wrap64 (av0 + rv0)))).setCell ⟨H + 1 + 1, 5, none⟩ (.int .i64 (wrap64 (av1 + rv1)))).setCell ⟨H + 1 + 1, 6, none⟩ (.int .i64 (wrap64 (av2 + rv2)))).setCell ⟨H + 1 + 1, 7, none⟩ (.int .u16 (IntKind.u16.wrap (aa + ra)))).setCell ⟨H + 1 + 1, 8, none⟩ (.int .u8 ag)) = W9 at RB LB ⊢
        have e0 := RB.cell 0 _ rfl
        have e1 := RB.cell 1 _ rfl
        have e2 := RB.cell 2 _ rfl
        have e3 := RB.cell 3 _ rfl
        have e4 := RB.cell 4 _ rfl
        have e5 := RB.cell 5 _ rfl
        have e6 := RB.cell 6 _ rfl
        have e7 := RB.cell 7 _ rfl
        have e8 := RB.cell 8 _ rfl
        refine bodyPost_ret (v := .tuple #[entV (addE ⟨ri, ap0, ap1, ap2, av0, av1, av2, aa, ag⟩ ⟨1, ri, rp0, rp1, rp2, rv0, rv1, rv2, ra⟩), .int .i64 0]) (by simp [results, Tryz.results83, go_sem, addE, e0, e1, e2, e3, e4, e5, e6, e7, e8]) rfl ⟨by rw [NA.out]; first | done | rfl, by rw [HH.out]; exact LB⟩
    · have e15 : er = 15 := by rw [HE2.out, if_pos (Or.inr (Or.inr gi))]
      have NN : Hid (N = noEnt) := by have h := HN.out; rw [if_neg (by omega)] at h; exact h
      clear HN HE2 HC
      subst e15
      have gi2 : (ri != ai) = true := by simp [gi]
      by_cases g3 : rk = 3
      · subst g3
        go_wp2_with fail
        have RB : Blk (((((((((w1.setCell ⟨H + 1 + 1, 0, none⟩ (.int .i64 0)).setCell ⟨H + 1 + 1, 1, none⟩ (.int .i64 0)).setCell ⟨H + 1 + 1, 2, none⟩ (.int .i64 0)).setCell ⟨H + 1 + 1, 3, none⟩ (.int .i64 0)).setCell ⟨H + 1 + 1, 4, none⟩ (.int .i64 0)).setCell ⟨H + 1 + 1, 5, none⟩ (.int .i64 0)).setCell ⟨H + 1 + 1, 6, none⟩ (.int .i64 0)).setCell ⟨H + 1 + 1, 7, none⟩ (.int .u16 0)).setCell ⟨H + 1 + 1, 8, none⟩ (.int .u8 0)) (H + 1 + 1) [.int .i64 0, .int .i64 0, .int .i64 0, .int .i64 0, .int .i64 0, .int .i64 0, .int .i64 0, .int .u16 0, .int .u8 0] := R1.nine
        have LB : Below H w (((((((((w1.setCell ⟨H + 1 + 1, 0, none⟩ (.int .i64 0)).setCell ⟨H + 1 + 1, 1, none⟩ (.int .i64 0)).setCell ⟨H + 1 + 1, 2, none⟩ (.int .i64 0)).setCell ⟨H + 1 + 1, 3, none⟩ (.int .i64 0)).setCell ⟨H + 1 + 1, 4, none⟩ (.int .i64 0)).setCell ⟨H + 1 + 1, 5, none⟩ (.int .i64 0)).setCell ⟨H + 1 + 1, 6, none⟩ (.int .i64 0)).setCell ⟨H + 1 + 1, 7, none⟩ (.int .u16 0)).setCell ⟨H + 1 + 1, 8, none⟩ (.int .u8 0)) := below_nine LL.out (by omega)
        generalize (((((((((w1.setCell ⟨H + 1 + 1, 0, none⟩ (.int .i64 0)).setCell ⟨H + 1 + 1, 1, none⟩ (.int .i64 0)).setCell ⟨H + 1 + 1, 2, none⟩ (.int .i64 0)).setCell ⟨H + 1 + 1, 3, none⟩ (.int .i64 0)).setCell ⟨H + 1 + 1, 4, none⟩ (.int .i64 0)).setCell ⟨H + 1 + 1, 5, none⟩ (.int .i64 0)).setCell ⟨H + 1 + 1, 6, none⟩ (.int .i64 0)).setCell ⟨H + 1 + 1, 7, none⟩ (.int .u16 0)).setCell ⟨H + 1 + 1, 8, none⟩ (.int .u8 0)) = W9 at RB LB ⊢
        have e0 := RB.cell 0 _ rfl
        have e1 := RB.cell 1 _ rfl
        have e2 := RB.cell 2 _ rfl
        have e3 := RB.cell 3 _ rfl
        have e4 := RB.cell 4 _ rfl
        have e5 := RB.cell 5 _ rfl
        have e6 := RB.cell 6 _ rfl
        have e7 := RB.cell 7 _ rfl
        have e8 := RB.cell 8 _ rfl
        refine bodyPost_ret (v := .tuple #[entV noEnt, .int .i64 15]) (by simp [results, Tryz.results83, go_sem, noEnt, e0, e1, e2, e3, e4, e5, e6, e7, e8]) rfl ⟨by rw [NN.out]; first | done | rfl, by rw [HH.out]; exact LB⟩
      · obtain rfl : rk = 1 := by omega
        go_wp2_with fail
        have RB : Blk (((((((((w1.setCell ⟨H + 1 + 1, 0, none⟩ (.int .i64 0)).setCell ⟨H + 1 + 1, 1, none⟩ (.int .i64 0)).setCell ⟨H + 1 + 1, 2, none⟩ (.int .i64 0)).setCell ⟨H + 1 + 1, 3, none⟩ (.int .i64 0)).setCell ⟨H + 1 + 1, 4, none⟩ (.int .i64 0)).setCell ⟨H + 1 + 1, 5, none⟩ (.int .i64 0)).setCell ⟨H + 1 + 1, 6, none⟩ (.int .i64 0)).setCell ⟨H + 1 + 1, 7, none⟩ (.int .u16 0)).setCell ⟨H + 1 + 1, 8, none⟩ (.int .u8 0)) (H + 1 + 1) [.int .i64 0, .int .i64 0, .int .i64 0, .int .i64 0, .int .i64 0, .int .i64 0, .int .i64 0, .int .u16 0, .int .u8 0] := R1.nine
        have LB : Below H w (((((((((w1.setCell ⟨H + 1 + 1, 0, none⟩ (.int .i64 0)).setCell ⟨H + 1 + 1, 1, none⟩ (.int .i64 0)).setCell ⟨H + 1 + 1, 2, none⟩ (.int .i64 0)).setCell ⟨H + 1 + 1, 3, none⟩ (.int .i64 0)).setCell ⟨H + 1 + 1, 4, none⟩ (.int .i64 0)).setCell ⟨H + 1 + 1, 5, none⟩ (.int .i64 0)).setCell ⟨H + 1 + 1, 6, none⟩ (.int .i64 0)).setCell ⟨H + 1 + 1, 7, none⟩ (.int .u16 0)).setCell ⟨H + 1 + 1, 8, none⟩ (.int .u8 0)) := below_nine LL.out (by omega)
        generalize (((((((((w1.setCell ⟨H + 1 + 1, 0, none⟩ (.int .i64 0)).setCell ⟨H + 1 + 1, 1, none⟩ (.int .i64 0)).setCell ⟨H + 1 + 1, 2, none⟩ (.int .i64 0)).setCell ⟨H + 1 + 1, 3, none⟩ (.int .i64 0)).setCell ⟨H + 1 + 1, 4, none⟩ (.int .i64 0)).setCell ⟨H + 1 + 1, 5, none⟩ (.int .i64 0)).setCell ⟨H + 1 + 1, 6, none⟩ (.int .i64 0)).setCell ⟨H + 1 + 1, 7, none⟩ (.int .u16 0)).setCell ⟨H + 1 + 1, 8, none⟩ (.int .u8 0)) = W9 at RB LB ⊢
        have e0 := RB.cell 0 _ rfl
        have e1 := RB.cell 1 _ rfl
        have e2 := RB.cell 2 _ rfl
        have e3 := RB.cell 3 _ rfl
        have e4 := RB.cell 4 _ rfl
        have e5 := RB.cell 5 _ rfl
        have e6 := RB.cell 6 _ rfl
        have e7 := RB.cell 7 _ rfl
        have e8 := RB.cell 8 _ rfl
        refine bodyPost_ret (v := .tuple #[entV noEnt, .int .i64 15]) (by simp [results, Tryz.results83, go_sem, noEnt, e0, e1, e2, e3, e4, e5, e6, e7, e8]) rfl ⟨by rw [NN.out]; first | done | rfl, by rw [HH.out]; exact LB⟩
  · have ec : er = c := by rw [HE.out, if_neg h0]
    have NN : Hid (N = noEnt) := by have h := HN.out; rw [if_neg (by omega)] at h; exact h
    clear HN HE HC
    subst ec
    go_wp2_with fail
    have RB : Blk (((((((((w1.setCell ⟨H + 1 + 1, 0, none⟩ (.int .i64 0)).setCell ⟨H + 1 + 1, 1, none⟩ (.int .i64 0)).setCell ⟨H + 1 + 1, 2, none⟩ (.int .i64 0)).setCell ⟨H + 1 + 1, 3, none⟩ (.int .i64 0)).setCell ⟨H + 1 + 1, 4, none⟩ (.int .i64 0)).setCell ⟨H + 1 + 1, 5, none⟩ (.int .i64 0)).setCell ⟨H + 1 + 1, 6, none⟩ (.int .i64 0)).setCell ⟨H + 1 + 1, 7, none⟩ (.int .u16 0)).setCell ⟨H + 1 + 1, 8, none⟩ (.int .u8 0)) (H + 1 + 1) [.int .i64 0, .int .i64 0, .int .i64 0, .int .i64 0, .int .i64 0, .int .i64 0, .int .i64 0, .int .u16 0, .int .u8 0] := R1.nine
    have LB : Below H w (((((((((w1.setCell ⟨H + 1 + 1, 0, none⟩ (.int .i64 0)).setCell ⟨H + 1 + 1, 1, none⟩ (.int .i64 0)).setCell ⟨H + 1 + 1, 2, none⟩ (.int .i64 0)).setCell ⟨H + 1 + 1, 3, none⟩ (.int .i64 0)).setCell ⟨H + 1 + 1, 4, none⟩ (.int .i64 0)).setCell ⟨H + 1 + 1, 5, none⟩ (.int .i64 0)).setCell ⟨H + 1 + 1, 6, none⟩ (.int .i64 0)).setCell ⟨H + 1 + 1, 7, none⟩ (.int .u16 0)).setCell ⟨H + 1 + 1, 8, none⟩ (.int .u8 0)) := below_nine LL.out (by omega)
    generalize (((((((((w1.setCell ⟨H + 1 + 1, 0, none⟩ (.int .i64 0)).setCell ⟨H + 1 + 1, 1, none⟩ (.int .i64 0)).setCell ⟨H + 1 + 1, 2, none⟩ (.int .i64 0)).setCell ⟨H + 1 + 1, 3, none⟩ (.int .i64 0)).setCell ⟨H + 1 + 1, 4, none⟩ (.int .i64 0)).setCell ⟨H + 1 + 1, 5, none⟩ (.int .i64 0)).setCell ⟨H + 1 + 1, 6, none⟩ (.int .i64 0)).setCell ⟨H + 1 + 1, 7, none⟩ (.int .u16 0)).setCell ⟨H + 1 + 1, 8, none⟩ (.int .u8 0)) = W9 at RB LB ⊢
    have e0 := RB.cell 0 _ rfl
    have e1 := RB.cell 1 _ rfl
    have e2 := RB.cell 2 _ rfl
    have e3 := RB.cell 3 _ rfl
    have e4 := RB.cell 4 _ rfl
    have e5 := RB.cell 5 _ rfl
    have e6 := RB.cell 6 _ rfl
    have e7 := RB.cell 7 _ rfl
    have e8 := RB.cell 8 _ rfl
    refine bodyPost_ret (v := .tuple #[entV noEnt, .int .i64 er]) (by simp [results, Tryz.results83, go_sem, noEnt, e0, e1, e2, e3, e4, e5, e6, e7, e8]) rfl ⟨by rw [NN.out]; first | done | rfl, by rw [HH.out]; exact LB⟩
set_option maxRecDepth 8000 in
set_option maxHeartbeats 4000000 in
theorem doc_apply (w : World) (a : En) (r : Rc) : Calls Tryz.prog 64 #[entV a, recV r] w fun e w' => e = .returned (.tuple #[entV (appN a r), .int .i64 (appE a r)]) ∧ Below w.heap.size w w' := by
  obtain ⟨ai, ap0, ap1, ap2, av0, av1, av2, aa, ag⟩ := a
  obtain ⟨rk, ri, rp0, rp1, rp2, rv0, rv1, rv2, ra⟩ := r
  obtain ⟨c, hc⟩ : ∃ c, chk ⟨rk, ri, rp0, rp1, rp2, rv0, rv1, rv2, ra⟩ = c := ⟨_, rfl⟩
  obtain ⟨er, her⟩ : ∃ er, appE ⟨ai, ap0, ap1, ap2, av0, av1, av2, aa, ag⟩ ⟨rk, ri, rp0, rp1, rp2, rv0, rv1, rv2, ra⟩ = er := ⟨_, rfl⟩
  obtain ⟨N, hN⟩ : ∃ N, appN ⟨ai, ap0, ap1, ap2, av0, av1, av2, aa, ag⟩ ⟨rk, ri, rp0, rp1, rp2, rv0, rv1, rv2, ra⟩ = N := ⟨_, rfl⟩
  have HC : Hid (chk ⟨rk, ri, rp0, rp1, rp2, rv0, rv1, rv2, ra⟩ = c) := hc
  have HE : Hid (er = if c = 0 then (if rk = 0 ∨ rk = 2 ∨ ri ≠ ai then 15 else 0) else c) := by rw [← her, ← hc]; rfl
  have HN : Hid (N = if er = 0 then (if rk = 3 then jumpE ⟨ai, ap0, ap1, ap2, av0, av1, av2, aa, ag⟩ ⟨rk, ri, rp0, rp1, rp2, rv0, rv1, rv2, ra⟩ else addE ⟨ai, ap0, ap1, ap2, av0, av1, av2, aa, ag⟩ ⟨rk, ri, rp0, rp1, rp2, rv0, rv1, rv2, ra⟩) else noEnt) := by rw [← hN, ← her]; rfl
  rw [her, hN]
  clear hc her hN
  go_enter Tryz.func64, Tryz.ntmps64
  go_wp2_with fail
  generalize hW : ((w.alloc (.cells (entA ⟨ai, ap0, ap1, ap2, av0, av1, av2, aa, ag⟩) 69)).alloc (.cells (recA ⟨rk, ri, rp0, rp1, rp2, rv0, rv1, rv2, ra⟩) 107)).alloc (.cells (entA ⟨0, 0, 0, 0, 0, 0, 0, 0, 0⟩) 69) = W
  obtain ⟨A0, X0, R0, L0, Z0⟩ := boxed3 hW
  clear hW
  refine (doc_check _ ⟨rk, ri, rp0, rp1, rp2, rv0, rv1, rv2, ra⟩).mono ?_; rw [HC.out]; rintro e' w1 ⟨rfl, b1⟩
  have A1 := A0.below b1 (by omega)
  have X1 := X0.below b1 (by omega)
  have R1 := R0.below b1 (by omega)
  have LL : Hid (Below w.heap.size w w1) := bthen L0 b1
  obtain ⟨H, hH⟩ : ∃ H, w.heap.size = H := ⟨_, rfl⟩
  rw [hH] at A1 X1 R1 LL
  rw [hH]
  have HH : Hid (w.heap.size = H) := hH
  clear hH L0 Z0 A0 X0 R0 b1
  have la := A1.lt
  have lx := X1.lt
  have lr := R1.lt
  have x0 := X1.cell 0 _ rfl
  have x1 := X1.cell 1 _ rfl
  have y0 := A1.cell 0 _ rfl
  have d0 := R1.cell 0 _ rfl
  have f0 := R1.froz 0
  have d1 := R1.cell 1 _ rfl
  have f1 := R1.froz 1
  have d2 := R1.cell 2 _ rfl
  have f2 := R1.froz 2
  have d3 := R1.cell 3 _ rfl
  have f3 := R1.froz 3
  have d4 := R1.cell 4 _ rfl
  have f4 := R1.froz 4
  have d5 := R1.cell 5 _ rfl
  have f5 := R1.froz 5
  have d6 := R1.cell 6 _ rfl
  have f6 := R1.froz 6
  have d7 := R1.cell 7 _ rfl
  have f7 := R1.froz 7
  have d8 := R1.cell 8 _ rfl
  have f8 := R1.froz 8
  by_cases h0 : c = 0
  · have HE2 : Hid (er = if rk = 0 ∨ rk = 2 ∨ ri ≠ ai then 15 else 0) := by have h := HE.out; rw [if_pos h0] at h; exact h
    clear HE
    have CK := chk_ok (r := ⟨rk, ri, rp0, rp1, rp2, rv0, rv1, rv2, ra⟩) (by rw [HC.out]; exact h0)
    obtain ⟨⟨k0, k1⟩, _, _, _⟩ := CK
    simp only at k0 k1
    subst h0
    by_cases g0 : rk = 0
    · have e15 : er = 15 := by rw [HE2.out, if_pos (Or.inl g0)]
      have NN : Hid (N = noEnt) := by have h := HN.out; rw [if_neg (by omega)] at h; exact h
      clear HN HE2 HC
      subst g0 e15
      go_wp2_with fail
      have RB : Blk (((((((((w1.setCell ⟨H + 1 + 1, 0, none⟩ (.int .i64 0)).setCell ⟨H + 1 + 1, 1, none⟩ (.int .i64 0)).setCell ⟨H + 1 + 1, 2, none⟩ (.int .i64 0)).setCell ⟨H + 1 + 1, 3, none⟩ (.int .i64 0)).setCell ⟨H + 1 + 1, 4, none⟩ (.int .i64 0)).setCell ⟨H + 1 + 1, 5, none⟩ (.int .i64 0)).setCell ⟨H + 1 + 1, 6, none⟩ (.int .i64 0)).setCell ⟨H + 1 + 1, 7, none⟩ (.int .u16 0)).setCell ⟨H + 1 + 1, 8, none⟩ (.int .u8 0)) (H + 1 + 1) [.int .i64 0, .int .i64 0, .int .i64 0, .int .i64 0, .int .i64 0, .int .i64 0, .int .i64 0, .int .u16 0, .int .u8 0] := R1.nine
      have LB : Below H w (((((((((w1.setCell ⟨H + 1 + 1, 0, none⟩ (.int .i64 0)).setCell ⟨H + 1 + 1, 1, none⟩ (.int .i64 0)).setCell ⟨H + 1 + 1, 2, none⟩ (.int .i64 0)).setCell ⟨H + 1 + 1, 3, none⟩ (.int .i64 0)).setCell ⟨H + 1 + 1, 4, none⟩ (.int .i64 0)).setCell ⟨H + 1 + 1, 5, none⟩ (.int .i64 0)).setCell ⟨H + 1 + 1, 6, none⟩ (.int .i64 0)).setCell ⟨H + 1 + 1, 7, none⟩ (.int .u16 0)).setCell ⟨H + 1 + 1, 8, none⟩ (.int .u8 0)) := below_nine LL.out (by omega)
      generalize (((((((((w1.setCell ⟨H + 1 + 1, 0, none⟩ (.int .i64 0)).setCell ⟨H + 1 + 1, 1, none⟩ (.int .i64 0)).setCell ⟨H + 1 + 1, 2, none⟩ (.int .i64 0)).setCell ⟨H + 1 + 1, 3, none⟩ (.int .i64 0)).setCell ⟨H + 1 + 1, 4, none⟩ (.int .i64 0)).setCell ⟨H + 1 + 1, 5, none⟩ (.int .i64 0)).setCell ⟨H + 1 + 1, 6, none⟩ (.int .i64 0)).setCell ⟨H + 1 + 1, 7, none⟩ (.int .u16 0)).setCell ⟨H + 1 + 1, 8, none⟩ (.int .u8 0)) = W9 at RB LB ⊢
      have e0 := RB.cell 0 _ rfl
      have e1 := RB.cell 1 _ rfl
      have e2 := RB.cell 2 _ rfl
      have e3 := RB.cell 3 _ rfl
      have e4 := RB.cell 4 _ rfl
      have e5 := RB.cell 5 _ rfl
      have e6 := RB.cell 6 _ rfl
      have e7 := RB.cell 7 _ rfl
      have e8 := RB.cell 8 _ rfl
      refine bodyPost_ret (v := .tuple #[entV noEnt, .int .i64 15]) (by simp [results, Tryz.results64, go_sem, noEnt, e0, e1, e2, e3, e4, e5, e6, e7, e8]) rfl ⟨by rw [NN.out]; first | done | rfl, by rw [HH.out]; exact LB⟩
    by_cases g2 : rk = 2
    · have e15 : er = 15 := by rw [HE2.out, if_pos (Or.inr (Or.inl g2))]
      have NN : Hid (N = noEnt) := by have h := HN.out; rw [if_neg (by omega)] at h; exact h
      clear HN HE2 HC
      subst g2 e15
      go_wp2_with fail
      have RB : Blk (((((((((w1.setCell ⟨H + 1 + 1, 0, none⟩ (.int .i64 0)).setCell ⟨H + 1 + 1, 1, none⟩ (.int .i64 0)).setCell ⟨H + 1 + 1, 2, none⟩ (.int .i64 0)).setCell ⟨H + 1 + 1, 3, none⟩ (.int .i64 0)).setCell ⟨H + 1 + 1, 4, none⟩ (.int .i64 0)).setCell ⟨H + 1 + 1, 5, none⟩ (.int .i64 0)).setCell ⟨H + 1 + 1, 6, none⟩ (.int .i64 0)).setCell ⟨H + 1 + 1, 7, none⟩ (.int .u16 0)).setCell ⟨H + 1 + 1, 8, none⟩ (.int .u8 0)) (H + 1 + 1) [.int .i64 0, .int .i64 0, .int .i64 0, .int .i64 0, .int .i64 0, .int .i64 0, .int .i64 0, .int .u16 0, .int .u8 0] := R1.nine
      have LB : Below H w (((((((((w1.setCell ⟨H + 1 + 1, 0, none⟩ (.int .i64 0)).setCell ⟨H + 1 + 1, 1, none⟩ (.int .i64 0)).setCell ⟨H + 1 + 1, 2, none⟩ (.int .i64 0)).setCell ⟨H + 1 + 1, 3, none⟩ (.int .i64 0)).setCell ⟨H + 1 + 1, 4, none⟩ (.int .i64 0)).setCell ⟨H + 1 + 1, 5, none⟩ (.int .i64 0)).setCell ⟨H + 1 + 1, 6, none⟩ (.int .i64 0)).setCell ⟨H + 1 + 1, 7, none⟩ (.int .u16 0)).setCell ⟨H + 1 + 1, 8, none⟩ (.int .u8 0)) := below_nine LL.out (by omega)
      generalize (((((((((w1.setCell ⟨H + 1 + 1, 0, none⟩ (.int .i64 0)).setCell ⟨H + 1 + 1, 1, none⟩ (.int .i64 0)).setCell ⟨H + 1 + 1, 2, none⟩ (.int .i64 0)).setCell ⟨H + 1 + 1, 3, none⟩ (.int .i64 0)).setCell ⟨H + 1 + 1, 4, none⟩ (.int .i64 0)).setCell ⟨H + 1 + 1, 5, none⟩ (.int .i64 0)).setCell ⟨H + 1 + 1, 6, none⟩ (.int .i64 0)).setCell ⟨H + 1 + 1, 7, none⟩ (.int .u16 0)).setCell ⟨H + 1 + 1, 8, none⟩ (.int .u8 0)) = W9 at RB LB ⊢
      have e0 := RB.cell 0 _ rfl
      have e1 := RB.cell 1 _ rfl
      have e2 := RB.cell 2 _ rfl
      have e3 := RB.cell 3 _ rfl
      have e4 := RB.cell 4 _ rfl
      have e5 := RB.cell 5 _ rfl
      have e6 := RB.cell 6 _ rfl
      have e7 := RB.cell 7 _ rfl
      have e8 := RB.cell 8 _ rfl
      refine bodyPost_ret (v := .tuple #[entV noEnt, .int .i64 15]) (by simp [results, Tryz.results64, go_sem, noEnt, e0, e1, e2, e3, e4, e5, e6, e7, e8]) rfl ⟨by rw [NN.out]; first | done | rfl, by rw [HH.out]; exact LB⟩
    by_cases gi : ri = ai
    · have e0' : er = 0 := by rw [HE2.out, if_neg (by omega)]
      have NN : Hid (N = if rk = 3 then jumpE ⟨ai, ap0, ap1, ap2, av0, av1, av2, aa, ag⟩ ⟨rk, ri, rp0, rp1, rp2, rv0, rv1, rv2, ra⟩ else addE ⟨ai, ap0, ap1, ap2, av0, av1, av2, aa, ag⟩ ⟨rk, ri, rp0, rp1, rp2, rv0, rv1, rv2, ra⟩) := by have h := HN.out; rw [if_pos e0'] at h; exact h
      clear HN HE2 HC
      subst gi e0'
      by_cases g3 : rk = 3
      · have NJ : Hid (N = jumpE ⟨ri, ap0, ap1, ap2, av0, av1, av2, aa, ag⟩ ⟨rk, ri, rp0, rp1, rp2, rv0, rv1, rv2, ra⟩) := by have h := NN.out; rw [if_pos g3] at h; exact h
        clear NN
        subst g3
        have x2 := X1.cell 2 _ rfl
        have x3 := X1.cell 3 _ rfl
        have x4 := X1.cell 4 _ rfl
        have x5 := X1.cell 5 _ rfl
        have x6 := X1.cell 6 _ rfl
        have x7 := X1.cell 7 _ rfl
        have x8 := X1.cell 8 _ rfl
        have y8 := A1.cell 8 _ rfl
        go_wp2_with fail
        have RB : Blk (((((((((w1.setCell ⟨H + 1 + 1, 0, none⟩ (.int .i64 ri)).setCell ⟨H + 1 + 1, 1, none⟩ (.int .i64 rp0)).setCell ⟨H + 1 + 1, 2, none⟩ (.int .i64 rp1)).setCell ⟨H + 1 + 1, 3, none⟩ (.int .i64 rp2)).setCell ⟨H + 1 + 1, 4, none⟩ (.int .i64 rv0)).setCell ⟨H + 1 + 1, 5, none⟩ (.int .i64 rv1)).setCell ⟨H + 1 + 1, 6, none⟩ (.int .i64 rv2)).setCell ⟨H + 1 + 1, 7, none⟩ (.int .u16 ra)).setCell ⟨H + 1 + 1, 8, none⟩ (.int .u8 ((ag + 1) % 256))) (H + 1 + 1) [.int .i64 ri, .int .i64 rp0, .int .i64 rp1, .int .i64 rp2, .int .i64 rv0, .int .i64 rv1, .int .i64 rv2, .int .u16 ra, .int .u8 ((ag + 1) % 256)] := R1.nine
        have LB : Below H w (((((((((w1.setCell ⟨H + 1 + 1, 0, none⟩ (.int .i64 ri)).setCell ⟨H + 1 + 1, 1, none⟩ (.int .i64 rp0)).setCell ⟨H + 1 + 1, 2, none⟩ (.int .i64 rp1)).setCell ⟨H + 1 + 1, 3, none⟩ (.int .i64 rp2)).setCell ⟨H + 1 + 1, 4, none⟩ (.int .i64 rv0)).setCell ⟨H + 1 + 1, 5, none⟩ (.int .i64 rv1)).setCell ⟨H + 1 + 1, 6, none⟩ (.int .i64 rv2)).setCell ⟨H + 1 + 1, 7, none⟩ (.int .u16 ra)).setCell ⟨H + 1 + 1, 8, none⟩ (.int .u8 ((ag + 1) % 256))) := below_nine LL.out (by omega)
        generalize (((((((((w1.setCell ⟨H + 1 + 1, 0, none⟩ (.int .i64 ri)).setCell ⟨H + 1 + 1, 1, none⟩ (.int .i64 rp0)).setCell ⟨H + 1 + 1, 2, none⟩ (.int .i64 rp1)).setCell ⟨H + 1 + 1, 3, none⟩ (.int .i64 rp2)).setCell ⟨H + 1 + 1, 4, none⟩ (.int .i64 rv0)).setCell ⟨H + 1 + 1, 5, none⟩ (.int .i64 rv1)).setCell ⟨H + 1 + 1, 6, none⟩ (.int .i64 rv2)).setCell ⟨H + 1 + 1, 7, none⟩ (.int .u16 ra)).setCell ⟨H + 1 + 1, 8, none⟩ (.int .u8 ((ag + 1) % 256))) = W9 at RB LB ⊢
        have e0 := RB.cell 0 _ rfl
        have e1 := RB.cell 1 _ rfl
        have e2 := RB.cell 2 _ rfl
        have e3 := RB.cell 3 _ rfl
        have e4 := RB.cell 4 _ rfl
        have e5 := RB.cell 5 _ rfl
        have e6 := RB.cell 6 _ rfl
        have e7 := RB.cell 7 _ rfl
        have e8 := RB.cell 8 _ rfl
        refine bodyPost_ret (v := .tuple #[entV (jumpE ⟨ri, ap0, ap1, ap2, av0, av1, av2, aa, ag⟩ ⟨3, ri, rp0, rp1, rp2, rv0, rv1, rv2, ra⟩), .int .i64 0]) (by simp [results, Tryz.results64, go_sem, jumpE, e0, e1, e2, e3, e4, e5, e6, e7, e8]) rfl ⟨by rw [NJ.out]; first | done | rfl, by rw [HH.out]; exact LB⟩
      · have NA : Hid (N = addE ⟨ri, ap0, ap1, ap2, av0, av1, av2, aa, ag⟩ ⟨rk, ri, rp0, rp1, rp2, rv0, rv1, rv2, ra⟩) := by have h := NN.out; rw [if_neg g3] at h; exact h
        clear NN
        obtain rfl : rk = 1 := by omega
        go_wp2_with fail
        have X0 := X1
        have A0 := A1
        have R0 := R1
        have LL0 := LL
        clear x0 x1 y0 X1 A1 R1 LL d0 f0 d1 f1 d2 f2 d3 f3 d4 f4 d5 f5 d6 f6 d7 f7 d8 f8
        refine wp_loop_rounds 4 ?_
        rw [rounds_succ]
        have ca := A0.cell 1 _ rfl
        have fa := A0.froz 1
        have cx := X0.cell 2 _ rfl
        have la' := A0.lt
        have lx' := X0.lt
        go_wp2_with fail
        go_region
        have X1 := X0.far (c := H) (j := 1) (by omega) (.int .i64 (wrap64 (ap0 + rp0)))
        have R1 := R0.far (c := H) (j := 1) (by omega) (.int .i64 (wrap64 (ap0 + rp0)))
        have A1 := A0.put (j := 1) (.int .i64 (wrap64 (ap0 + rp0))) (by simp)
        simp only [List.set] at A1
        have LL1 : Hid (Below H w (w1.setCell ⟨H, 1, none⟩ (.int .i64 (wrap64 (ap0 + rp0)))).drew) := (LL0.out.setCell (by exact Nat.le_refl H) _).drew
        generalize (w1.setCell ⟨H, 1, none⟩ (.int .i64 (wrap64 (ap0 + rp0)))).drew = V1 at A1 X1 R1 LL1 ⊢
        clear ca fa cx la' lx' A0 X0 R0 LL0
        have ca := A1.cell 4 _ rfl
        have fa := A1.froz 4
        have cx := X1.cell 5 _ rfl
        have la' := A1.lt
        have lx' := X1.lt
        go_wp2_with fail
        go_region
        have X2 := X1.far (c := H) (j := 4) (by omega) (.int .i64 (wrap64 (av0 + rv0)))
        have R2 := R1.far (c := H) (j := 4) (by omega) (.int .i64 (wrap64 (av0 + rv0)))
        have A2 := A1.put (j := 4) (.int .i64 (wrap64 (av0 + rv0))) (by simp)
        simp only [List.set] at A2
        have LL2 : Hid (Below H w (V1.setCell ⟨H, 4, none⟩ (.int .i64 (wrap64 (av0 + rv0)))).drew) := (LL1.out.setCell (by exact Nat.le_refl H) _).drew
        generalize (V1.setCell ⟨H, 4, none⟩ (.int .i64 (wrap64 (av0 + rv0)))).drew = V2 at A2 X2 R2 LL2 ⊢
        clear ca fa cx la' lx' A1 X1 R1 LL1
        go_wp2_with fail
        rw [rounds_succ]
        have ca := A2.cell 2 _ rfl
        have fa := A2.froz 2
        have cx := X2.cell 3 _ rfl
        have la' := A2.lt
        have lx' := X2.lt
        go_wp2_with fail
        go_region
        have X3 := X2.far (c := H) (j := 2) (by omega) (.int .i64 (wrap64 (ap1 + rp1)))
        have R3 := R2.far (c := H) (j := 2) (by omega) (.int .i64 (wrap64 (ap1 + rp1)))
        have A3 := A2.put (j := 2) (.int .i64 (wrap64 (ap1 + rp1))) (by simp)
        simp only [List.set] at A3
        have LL3 : Hid (Below H w (V2.setCell ⟨H, 2, none⟩ (.int .i64 (wrap64 (ap1 + rp1)))).drew) := (LL2.out.setCell (by exact Nat.le_refl H) _).drew
        generalize (V2.setCell ⟨H, 2, none⟩ (.int .i64 (wrap64 (ap1 + rp1)))).drew = V3 at A3 X3 R3 LL3 ⊢
        clear ca fa cx la' lx' A2 X2 R2 LL2
        have ca := A3.cell 5 _ rfl
        have fa := A3.froz 5
        have cx := X3.cell 6 _ rfl
        have la' := A3.lt
        have lx' := X3.lt
        go_wp2_with fail
        go_region
        have X4 := X3.far (c := H) (j := 5) (by omega) (.int .i64 (wrap64 (av1 + rv1)))
        have R4 := R3.far (c := H) (j := 5) (by omega) (.int .i64 (wrap64 (av1 + rv1)))
        have A4 := A3.put (j := 5) (.int .i64 (wrap64 (av1 + rv1))) (by simp)
        simp only [List.set] at A4
        have LL4 : Hid (Below H w (V3.setCell ⟨H, 5, none⟩ (.int .i64 (wrap64 (av1 + rv1)))).drew) := (LL3.out.setCell (by exact Nat.le_refl H) _).drew
        generalize (V3.setCell ⟨H, 5, none⟩ (.int .i64 (wrap64 (av1 + rv1)))).drew = V4 at A4 X4 R4 LL4 ⊢
        clear ca fa cx la' lx' A3 X3 R3 LL3
        go_wp2_with fail
        rw [rounds_succ]
        have ca := A4.cell 3 _ rfl
        have fa := A4.froz 3
        have cx := X4.cell 4 _ rfl
        have la' := A4.lt
        have lx' := X4.lt
        go_wp2_with fail
        go_region
        have X5 := X4.far (c := H) (j := 3) (by omega) (.int .i64 (wrap64 (ap2 + rp2)))
        have R5 := R4.far (c := H) (j := 3) (by omega) (.int .i64 (wrap64 (ap2 + rp2)))
        have A5 := A4.put (j := 3) (.int .i64 (wrap64 (ap2 + rp2))) (by simp)
        simp only [List.set] at A5
        have LL5 : Hid (Below H w (V4.setCell ⟨H, 3, none⟩ (.int .i64 (wrap64 (ap2 + rp2)))).drew) := (LL4.out.setCell (by exact Nat.le_refl H) _).drew
        generalize (V4.setCell ⟨H, 3, none⟩ (.int .i64 (wrap64 (ap2 + rp2)))).drew = V5 at A5 X5 R5 LL5 ⊢
        clear ca fa cx la' lx' A4 X4 R4 LL4
        have ca := A5.cell 6 _ rfl
        have fa := A5.froz 6
        have cx := X5.cell 7 _ rfl
        have la' := A5.lt
        have lx' := X5.lt
        go_wp2_with fail
        go_region
        have X6 := X5.far (c := H) (j := 6) (by omega) (.int .i64 (wrap64 (av2 + rv2)))
        have R6 := R5.far (c := H) (j := 6) (by omega) (.int .i64 (wrap64 (av2 + rv2)))
        have A6 := A5.put (j := 6) (.int .i64 (wrap64 (av2 + rv2))) (by simp)
        simp only [List.set] at A6
        have LL6 : Hid (Below H w (V5.setCell ⟨H, 6, none⟩ (.int .i64 (wrap64 (av2 + rv2)))).drew) := (LL5.out.setCell (by exact Nat.le_refl H) _).drew
        generalize (V5.setCell ⟨H, 6, none⟩ (.int .i64 (wrap64 (av2 + rv2)))).drew = V6 at A6 X6 R6 LL6 ⊢
        clear ca fa cx la' lx' A5 X5 R5 LL5
        go_wp2_with fail
        rw [rounds_succ]
        have la' := A6.lt
        have lx' := X6.lt
        have lr' := R6.lt
        have x8 := X6.cell 8 _ rfl
        have fa7 := A6.froz 7
        have a0' := A6.cell 0 _ rfl
        have d0 := R6.cell 0 _ rfl
        have f0 := R6.froz 0
        have a1' := A6.cell 1 _ rfl
        have d1 := R6.cell 1 _ rfl
        have f1 := R6.froz 1
        have a2' := A6.cell 2 _ rfl
        have d2 := R6.cell 2 _ rfl
        have f2 := R6.froz 2
        have a3' := A6.cell 3 _ rfl
        have d3 := R6.cell 3 _ rfl
        have f3 := R6.froz 3
        have a4' := A6.cell 4 _ rfl
        have d4 := R6.cell 4 _ rfl
        have f4 := R6.froz 4
        have a5' := A6.cell 5 _ rfl
        have d5 := R6.cell 5 _ rfl
        have f5 := R6.froz 5
        have a6' := A6.cell 6 _ rfl
        have d6 := R6.cell 6 _ rfl
        have f6 := R6.froz 6
        have a7' := A6.cell 7 _ rfl
        have d7 := R6.cell 7 _ rfl
        have f7 := R6.froz 7
        have a8' := A6.cell 8 _ rfl
        have d8 := R6.cell 8 _ rfl
        have f8 := R6.froz 8
        go_wp2_with fail
        have R7 := R6.other (p := ⟨H, 7, none⟩) (show H ≠ H + 1 + 1 by omega) (.int .u16 (IntKind.u16.wrap (aa + ra)))
        have LL7 : Hid (Below H w (V6.setCell ⟨H, 7, none⟩ (.int .u16 (IntKind.u16.wrap (aa + ra))))) := LL6.out.setCell (by exact Nat.le_refl H) _
        have RB : Blk ((((((((((V6.setCell ⟨H, 7, none⟩ (.int .u16 (IntKind.u16.wrap (aa + ra)))).setCell ⟨H + 1 + 1, 0, none⟩ (.int .i64 ri)).setCell ⟨H + 1 + 1, 1, none⟩ (.int .i64 (wrap64 (ap0 + rp0)))).setCell ⟨H + 1 + 1, 2, none⟩ (.int .i64 (wrap64 (ap1 + rp1)))).setCell ⟨H + 1 + 1, 3, none⟩ (.int .i64 (wrap64 (ap2 + rp2)))).setCell ⟨H + 1 + 1, 4, none⟩ (.int .i64 (wrap64 (av0 + rv0)))).setCell ⟨H + 1 + 1, 5, none⟩ (.int .i64 (wrap64 (av1 + rv1)))).setCell ⟨H + 1 + 1, 6, none⟩ (.int .i64 (wrap64 (av2 + rv2)))).setCell ⟨H + 1 + 1, 7, none⟩ (.int .u16 (IntKind.u16.wrap (aa + ra)))).setCell ⟨H + 1 + 1, 8, none⟩ (.int .u8 ag)) (H + 1 + 1) [.int .i64 ri, .int .i64 (wrap64 (ap0 + rp0)), .int .i64 (wrap64 (ap1 + rp1)), .int .i64 (wrap64 (ap2 + rp2)), .int .i64 (wrap64 (av0 + rv0)), .int .i64 (wrap64 (av1 + rv1)), .int .i64 (wrap64 (av2 + rv2)), .int .u16 (IntKind.u16.wrap (aa + ra)), .int .u8 ag] := R7.nine
        have LB : Below H w ((((((((((V6.setCell ⟨H, 7, none⟩ (.int .u16 (IntKind.u16.wrap (aa + ra)))).setCell ⟨H + 1 + 1, 0, none⟩ (.int .i64 ri)).setCell ⟨H + 1 + 1, 1, none⟩ (.int .i64 (wrap64 (ap0 + rp0)))).setCell ⟨H + 1 + 1, 2, none⟩ (.int .i64 (wrap64 (ap1 + rp1)))).setCell ⟨H + 1 + 1, 3, none⟩ (.int .i64 (wrap64 (ap2 + rp2)))).setCell ⟨H + 1 + 1, 4, none⟩ (.int .i64 (wrap64 (av0 + rv0)))).setCell ⟨H + 1 + 1, 5, none⟩ (.int .i64 (wrap64 (av1 + rv1)))).setCell ⟨H + 1 + 1, 6, none⟩ (.int .i64 (wrap64 (av2 + rv2)))).setCell ⟨H + 1 + 1, 7, none⟩ (.int .u16 (IntKind.u16.wrap (aa + ra)))).setCell ⟨H + 1 + 1, 8, none⟩ (.int .u8 ag)) := below_nine LL7.out (by omega)
        generalize ((((((((((V6.setCell ⟨H, 7, none⟩ (.int .u16 (IntKind.u16.wrap (aa + ra)))).setCell ⟨H + 1 + 1, 0, none⟩ (.int .i64 ri)).setCell ⟨H + 1 + 1, 1, none⟩ (.int .i64 (wrap64 (ap0 + rp0)))).setCell ⟨H + 1 + 1, 2, none⟩ (.int .i64 (wrap64 (ap1 + rp1)))).setCell ⟨H + 1 + 1, 3, none⟩ (.int .i64 (wrap64 (ap2 + rp2)))).setCell ⟨H + 1 + 1, 4, none⟩ (.int .i64 (wrap64 (av0 + rv0)))).setCell ⟨H + 1 + 1, 5, none⟩ (.int .i64 (wrap64 (av1 + rv1)))).setCell ⟨H + 1 + 1, 6, none⟩ (.int .i64 (wrap64 (av2 + rv2)))).setCell ⟨H + 1 + 1, 7, none⟩ (.int .u16 (IntKind.u16.wrap (aa + ra)))).setCell ⟨H + 1 + 1, 8, none⟩ (.int .u8 ag)) = W9 at RB LB ⊢
        have e0 := RB.cell 0 _ rfl
        have e1 := RB.cell 1 _ rfl
        have e2 := RB.cell 2 _ rfl
        have e3 := RB.cell 3 _ rfl
        have e4 := RB.cell 4 _ rfl
        have e5 := RB.cell 5 _ rfl
        have e6 := RB.cell 6 _ rfl
        have e7 := RB.cell 7 _ rfl
        have e8 := RB.cell 8 _ rfl
        refine bodyPost_ret (v := .tuple #[entV (addE ⟨ri, ap0, ap1, ap2, av0, av1, av2, aa, ag⟩ ⟨1, ri, rp0, rp1, rp2, rv0, rv1, rv2, ra⟩), .int .i64 0]) (by simp [results, Tryz.results64, go_sem, addE, e0, e1, e2, e3, e4, e5, e6, e7, e8]) rfl ⟨by rw [NA.out]; first | done | rfl, by rw [HH.out]; exact LB⟩
    · have e15 : er = 15 := by rw [HE2.out, if_pos (Or.inr (Or.inr gi))]
      have NN : Hid (N = noEnt) := by have h := HN.out; rw [if_neg (by omega)] at h; exact h
      clear HN HE2 HC
      subst e15
      have gi2 : (ri != ai) = true := by simp [gi]
      by_cases g3 : rk = 3
      · subst g3
        go_wp2_with fail
        have RB : Blk (((((((((w1.setCell ⟨H + 1 + 1, 0, none⟩ (.int .i64 0)).setCell ⟨H + 1 + 1, 1, none⟩ (.int .i64 0)).setCell ⟨H + 1 + 1, 2, none⟩ (.int .i64 0)).setCell ⟨H + 1 + 1, 3, none⟩ (.int .i64 0)).setCell ⟨H + 1 + 1, 4, none⟩ (.int .i64 0)).setCell ⟨H + 1 + 1, 5, none⟩ (.int .i64 0)).setCell ⟨H + 1 + 1, 6, none⟩ (.int .i64 0)).setCell ⟨H + 1 + 1, 7, none⟩ (.int .u16 0)).setCell ⟨H + 1 + 1, 8, none⟩ (.int .u8 0)) (H + 1 + 1) [.int .i64 0, .int .i64 0, .int .i64 0, .int .i64 0, .int .i64 0, .int .i64 0, .int .i64 0, .int .u16 0, .int .u8 0] := R1.nine
        have LB : Below H w (((((((((w1.setCell ⟨H + 1 + 1, 0, none⟩ (.int .i64 0)).setCell ⟨H + 1 + 1, 1, none⟩ (.int .i64 0)).setCell ⟨H + 1 + 1, 2, none⟩ (.int .i64 0)).setCell ⟨H + 1 + 1, 3, none⟩ (.int .i64 0)).setCell ⟨H + 1 + 1, 4, none⟩ (.int .i64 0)).setCell ⟨H + 1 + 1, 5, none⟩ (.int .i64 0)).setCell ⟨H + 1 + 1, 6, none⟩ (.int .i64 0)).setCell ⟨H + 1 + 1, 7, none⟩ (.int .u16 0)).setCell ⟨H + 1 + 1, 8, none⟩ (.int .u8 0)) := below_nine LL.out (by omega)
        generalize (((((((((w1.setCell ⟨H + 1 + 1, 0, none⟩ (.int .i64 0)).setCell ⟨H + 1 + 1, 1, none⟩ (.int .i64 0)).setCell ⟨H + 1 + 1, 2, none⟩ (.int .i64 0)).setCell ⟨H + 1 + 1, 3, none⟩ (.int .i64 0)).setCell ⟨H + 1 + 1, 4, none⟩ (.int .i64 0)).setCell ⟨H + 1 + 1, 5, none⟩ (.int .i64 0)).setCell ⟨H + 1 + 1, 6, none⟩ (.int .i64 0)).setCell ⟨H + 1 + 1, 7, none⟩ (.int .u16 0)).setCell ⟨H + 1 + 1, 8, none⟩ (.int .u8 0)) = W9 at RB LB ⊢
        have e0 := RB.cell 0 _ rfl
        have e1 := RB.cell 1 _ rfl
        have e2 := RB.cell 2 _ rfl
        have e3 := RB.cell 3 _ rfl
        have e4 := RB.cell 4 _ rfl
        have e5 := RB.cell 5 _ rfl
        have e6 := RB.cell 6 _ rfl
        have e7 := RB.cell 7 _ rfl
        have e8 := RB.cell 8 _ rfl
        refine bodyPost_ret (v := .tuple #[entV noEnt, .int .i64 15]) (by simp [results, Tryz.results64, go_sem, noEnt, e0, e1, e2, e3, e4, e5, e6, e7, e8]) rfl ⟨by rw [NN.out]; first | done | rfl, by rw [HH.out]; exact LB⟩
      · obtain rfl : rk = 1 := by omega
        go_wp2_with fail
        have RB : Blk (((((((((w1.setCell ⟨H + 1 + 1, 0, none⟩ (.int .i64 0)).setCell ⟨H + 1 + 1, 1, none⟩ (.int .i64 0)).setCell ⟨H + 1 + 1, 2, none⟩ (.int .i64 0)).setCell ⟨H + 1 + 1, 3, none⟩ (.int .i64 0)).setCell ⟨H + 1 + 1, 4, none⟩ (.int .i64 0)).setCell ⟨H + 1 + 1, 5, none⟩ (.int .i64 0)).setCell ⟨H + 1 + 1, 6, none⟩ (.int .i64 0)).setCell ⟨H + 1 + 1, 7, none⟩ (.int .u16 0)).setCell ⟨H + 1 + 1, 8, none⟩ (.int .u8 0)) (H + 1 + 1) [.int .i64 0, .int .i64 0, .int .i64 0, .int .i64 0, .int .i64 0, .int .i64 0, .int .i64 0, .int .u16 0, .int .u8 0] := R1.nine
        have LB : Below H w (((((((((w1.setCell ⟨H + 1 + 1, 0, none⟩ (.int .i64 0)).setCell ⟨H + 1 + 1, 1, none⟩ (.int .i64 0)).setCell ⟨H + 1 + 1, 2, none⟩ (.int .i64 0)).setCell ⟨H + 1 + 1, 3, none⟩ (.int .i64 0)).setCell ⟨H + 1 + 1, 4, none⟩ (.int .i64 0)).setCell ⟨H + 1 + 1, 5, none⟩ (.int .i64 0)).setCell ⟨H + 1 + 1, 6, none⟩ (.int .i64 0)).setCell ⟨H + 1 + 1, 7, none⟩ (.int .u16 0)).setCell ⟨H + 1 + 1, 8, none⟩ (.int .u8 0)) := below_nine LL.out (by omega)
        generalize (((((((((w1.setCell ⟨H + 1 + 1, 0, none⟩ (.int .i64 0)).setCell ⟨H + 1 + 1, 1, none⟩ (.int .i64 0)).setCell ⟨H + 1 + 1, 2, none⟩ (.int .i64 0)).setCell ⟨H + 1 + 1, 3, none⟩ (.int .i64 0)).setCell ⟨H + 1 + 1, 4, none⟩ (.int .i64 0)).setCell ⟨H + 1 + 1, 5, none⟩ (.int .i64 0)).setCell ⟨H + 1 + 1, 6, none⟩ (.int .i64 0)).setCell ⟨H + 1 + 1, 7, none⟩ (.int .u16 0)).setCell ⟨H + 1 + 1, 8, none⟩ (.int .u8 0)) = W9 at RB LB ⊢
        have e0 := RB.cell 0 _ rfl
        have e1 := RB.cell 1 _ rfl
        have e2 := RB.cell 2 _ rfl
        have e3 := RB.cell 3 _ rfl
        have e4 := RB.cell 4 _ rfl
        have e5 := RB.cell 5 _ rfl
        have e6 := RB.cell 6 _ rfl
        have e7 := RB.cell 7 _ rfl
        have e8 := RB.cell 8 _ rfl
        refine bodyPost_ret (v := .tuple #[entV noEnt, .int .i64 15]) (by simp [results, Tryz.results64, go_sem, noEnt, e0, e1, e2, e3, e4, e5, e6, e7, e8]) rfl ⟨by rw [NN.out]; first | done | rfl, by rw [HH.out]; exact LB⟩
  · have ec : er = c := by rw [HE.out, if_neg h0]
    have NN : Hid (N = noEnt) := by have h := HN.out; rw [if_neg (by omega)] at h; exact h
    clear HN HE HC
    subst ec
    go_wp2_with fail
    have RB : Blk (((((((((w1.setCell ⟨H + 1 + 1, 0, none⟩ (.int .i64 0)).setCell ⟨H + 1 + 1, 1, none⟩ (.int .i64 0)).setCell ⟨H + 1 + 1, 2, none⟩ (.int .i64 0)).setCell ⟨H + 1 + 1, 3, none⟩ (.int .i64 0)).setCell ⟨H + 1 + 1, 4, none⟩ (.int .i64 0)).setCell ⟨H + 1 + 1, 5, none⟩ (.int .i64 0)).setCell ⟨H + 1 + 1, 6, none⟩ (.int .i64 0)).setCell ⟨H + 1 + 1, 7, none⟩ (.int .u16 0)).setCell ⟨H + 1 + 1, 8, none⟩ (.int .u8 0)) (H + 1 + 1) [.int .i64 0, .int .i64 0, .int .i64 0, .int .i64 0, .int .i64 0, .int .i64 0, .int .i64 0, .int .u16 0, .int .u8 0] := R1.nine
    have LB : Below H w (((((((((w1.setCell ⟨H + 1 + 1, 0, none⟩ (.int .i64 0)).setCell ⟨H + 1 + 1, 1, none⟩ (.int .i64 0)).setCell ⟨H + 1 + 1, 2, none⟩ (.int .i64 0)).setCell ⟨H + 1 + 1, 3, none⟩ (.int .i64 0)).setCell ⟨H + 1 + 1, 4, none⟩ (.int .i64 0)).setCell ⟨H + 1 + 1, 5, none⟩ (.int .i64 0)).setCell ⟨H + 1 + 1, 6, none⟩ (.int .i64 0)).setCell ⟨H + 1 + 1, 7, none⟩ (.int .u16 0)).setCell ⟨H + 1 + 1, 8, none⟩ (.int .u8 0)) := below_nine LL.out (by omega)
    generalize (((((((((w1.setCell ⟨H + 1 + 1, 0, none⟩ (.int .i64 0)).setCell ⟨H + 1 + 1, 1, none⟩ (.int .i64 0)).setCell ⟨H + 1 + 1, 2, none⟩ (.int .i64 0)).setCell ⟨H + 1 + 1, 3, none⟩ (.int .i64 0)).setCell ⟨H + 1 + 1, 4, none⟩ (.int .i64 0)).setCell ⟨H + 1 + 1, 5, none⟩ (.int .i64 0)).setCell ⟨H + 1 + 1, 6, none⟩ (.int .i64 0)).setCell ⟨H + 1 + 1, 7, none⟩ (.int .u16 0)).setCell ⟨H + 1 + 1, 8, none⟩ (.int .u8 0)) = W9 at RB LB ⊢
    have e0 := RB.cell 0 _ rfl
    have e1 := RB.cell 1 _ rfl
    have e2 := RB.cell 2 _ rfl
    have e3 := RB.cell 3 _ rfl
    have e4 := RB.cell 4 _ rfl
    have e5 := RB.cell 5 _ rfl
    have e6 := RB.cell 6 _ rfl
    have e7 := RB.cell 7 _ rfl
    have e8 := RB.cell 8 _ rfl
    refine bodyPost_ret (v := .tuple #[entV noEnt, .int .i64 er]) (by simp [results, Tryz.results64, go_sem, noEnt, e0, e1, e2, e3, e4, e5, e6, e7, e8]) rfl ⟨by rw [NN.out]; first | done | rfl, by rw [HH.out]; exact LB⟩
end Go.Proofs.YtlpdhglibgnkoaaGreat
