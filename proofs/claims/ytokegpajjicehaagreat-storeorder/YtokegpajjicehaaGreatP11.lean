/-
  Texts Rec9 in one.
-/
import Derived.Test.YtokegpajjicehaaGreatP10
namespace Go.Proofs.YtokegpajjicehaaGreat
open Go.RowKit
set_option linter.unusedVariables false
attribute [local go_sem ↓] eqR_run eqE_run eq6_run

/-- The differences of an Update. -/
def updR (a b : En) : Rc := ⟨1, b.i, wrap64 (b.p0 - a.p0), wrap64 (b.p1 - a.p1), wrap64 (b.p2 - a.p2), wrap64 (b.v0 - a.v0), wrap64 (b.v1 - a.v1), wrap64 (b.v2 - a.v2), IntKind.u16.wrap (b.a - a.a)⟩
/-- The record that makes b of a. -/
def difR (a b : En) : Rc := if entB a b = true then noRec else if a.g = b.g then updR a b else ⟨3, b.i, b.p0, b.p1, b.p2, b.v0, b.v1, b.v2, b.a⟩
theorem Blk.far {w : World} {b c j : Nat} {cs : List Value} (h : Blk w b cs) (hne : c ≠ b) (v : Value) : Blk (w.setCell ⟨c, j, none⟩ v).drew b cs := (h.other (p := ⟨c, j, none⟩) hne v).drew
theorem Blk.put {w : World} {b j : Nat} {cs : List Value} (h : Blk w b cs) (v : Value) (hj : j < cs.length) : Blk (w.setCell ⟨b, j, none⟩ v).drew b (cs.set j v) := (h.set j v hj).drew
theorem boxed4 {w W : World} {a b c d : Array Value} {t1 t2 t3 t4 : TypeId} (h : (((w.alloc (.cells a t1)).alloc (.cells b t2)).alloc (.cells c t3)).alloc (.cells d t4) = W) :
    Blk W w.heap.size a.toList ∧ Blk W (w.heap.size + 1) b.toList ∧ Blk W (w.heap.size + 1 + 1) c.toList ∧ Blk W (w.heap.size + 1 + 1 + 1) d.toList ∧ Below w.heap.size w W := by
  subst h
  refine ⟨(((Blk.new w _ _ rfl).alloc _).alloc _).alloc _, ((Blk.new _ _ _ (by simp)).alloc _).alloc _, (Blk.new _ _ _ (by simp)).alloc _, Blk.new _ _ _ (by simp), ?_⟩
  exact ((((Below.refl _ _).alloc (Nat.le_refl _) _).alloc (by simp) _).alloc (by simp; omega) _).alloc (by simp; omega) _
/-- A block of nine cells is written whole. -/
theorem Blk.nine {w : World} {b : Nat} {c0 c1 c2 c3 c4 c5 c6 c7 c8 x0 x1 x2 x3 x4 x5 x6 x7 x8 : Value} (h : Blk w b [c0, c1, c2, c3, c4, c5, c6, c7, c8]) :
    Blk (((((((((w.setCell ⟨b, 0, none⟩ x0).setCell ⟨b, 1, none⟩ x1).setCell ⟨b, 2, none⟩ x2).setCell ⟨b, 3, none⟩ x3).setCell ⟨b, 4, none⟩ x4).setCell ⟨b, 5, none⟩ x5).setCell ⟨b, 6, none⟩ x6).setCell ⟨b, 7, none⟩ x7).setCell ⟨b, 8, none⟩ x8) b [x0, x1, x2, x3, x4, x5, x6, x7, x8] :=
  ((((((((h.set 0 x0 (by simp)).set 1 x1 (by simp)).set 2 x2 (by simp)).set 3 x3 (by simp)).set 4 x4 (by simp)).set 5 x5 (by simp)).set 6 x6 (by simp)).set 7 x7 (by simp)).set 8 x8 (by simp)
theorem below_nine {B : Nat} {a w : World} {b : Nat} {x0 x1 x2 x3 x4 x5 x6 x7 x8 : Value} (h : Below B a w) (hb : B ≤ b) :
    Below B a (((((((((w.setCell ⟨b, 0, none⟩ x0).setCell ⟨b, 1, none⟩ x1).setCell ⟨b, 2, none⟩ x2).setCell ⟨b, 3, none⟩ x3).setCell ⟨b, 4, none⟩ x4).setCell ⟨b, 5, none⟩ x5).setCell ⟨b, 6, none⟩ x6).setCell ⟨b, 7, none⟩ x7).setCell ⟨b, 8, none⟩ x8) :=
  ((((((((h.setCell hb _).setCell hb _).setCell hb _).setCell hb _).setCell hb _).setCell hb _).setCell hb _).setCell hb _).setCell hb _
set_option maxRecDepth 8000 in
set_option maxHeartbeats 4000000 in
theorem rec_diff (w : World) (a b : En) : Calls Tryz.prog 95 #[entV a, entV b] w fun e w' => e = .returned (.tuple #[recV (difR a b), .bool (!entB a b)]) ∧ Below w.heap.size w w' := by
  obtain ⟨ai, ap0, ap1, ap2, av0, av1, av2, aa, ag⟩ := a
  obtain ⟨bi, bp0, bp1, bp2, bv0, bv1, bv2, ba, bg⟩ := b
  obtain ⟨r, hr⟩ : ∃ r, difR ⟨ai, ap0, ap1, ap2, av0, av1, av2, aa, ag⟩ ⟨bi, bp0, bp1, bp2, bv0, bv1, bv2, ba, bg⟩ = r := ⟨_, rfl⟩
  obtain ⟨q, hq⟩ : ∃ q, entB ⟨ai, ap0, ap1, ap2, av0, av1, av2, aa, ag⟩ ⟨bi, bp0, bp1, bp2, bv0, bv1, bv2, ba, bg⟩ = q := ⟨_, rfl⟩
  have HR : Hid (r = if q = true then noRec else if ag = bg then updR ⟨ai, ap0, ap1, ap2, av0, av1, av2, aa, ag⟩ ⟨bi, bp0, bp1, bp2, bv0, bv1, bv2, ba, bg⟩ else ⟨3, bi, bp0, bp1, bp2, bv0, bv1, bv2, ba⟩) := by rw [← hr, ← hq]; rfl
  rw [hr, hq]
  clear hr
  go_enter Tryz.func95, Tryz.ntmps95
  by_cases hs : q = true
  · have HR2 : Hid (r = noRec) := by have h := HR.out; rw [if_pos hs] at h; exact h
    clear HR
    subst hs
    go_wp2_with fail
    refine bodyPost_ret (v := .tuple #[recV noRec, .bool false]) (by simp [results, Tryz.results95, go_sem, noRec]) rfl ⟨by rw [HR2.out]; rfl, ?_⟩
    exact (((Below.refl _ _).alloc (Nat.le_refl _) _).alloc (by simp) _).alloc (by simp; omega) _
  have q0 : q = false := by simpa using hs
  have HR3 : Hid (r = if ag = bg then updR ⟨ai, ap0, ap1, ap2, av0, av1, av2, aa, ag⟩ ⟨bi, bp0, bp1, bp2, bv0, bv1, bv2, ba, bg⟩ else ⟨3, bi, bp0, bp1, bp2, bv0, bv1, bv2, ba⟩) := by have h := HR.out; rw [if_neg hs] at h; exact h
  clear HR
  subst q0
  by_cases hg : ag = bg
  · have HR4 : Hid (r = updR ⟨ai, ap0, ap1, ap2, av0, av1, av2, aa, ag⟩ ⟨bi, bp0, bp1, bp2, bv0, bv1, bv2, ba, bg⟩) := by have h := HR3.out; rw [if_pos hg] at h; exact h
    clear HR3
    subst hg
    go_wp2_with fail
    generalize hW : (((w.alloc (.cells (entA ⟨ai, ap0, ap1, ap2, av0, av1, av2, aa, ag⟩) 40)).alloc (.cells (entA ⟨bi, bp0, bp1, bp2, bv0, bv1, bv2, ba, ag⟩) 40)).alloc (.cells (recA ⟨0, 0, 0, 0, 0, 0, 0, 0, 0⟩) 79)).alloc (.cells (recA ⟨1, bi, 0, 0, 0, 0, 0, 0, IntKind.u16.wrap (ba - aa)⟩) 79) = W
    obtain ⟨A0, B0, R0, X0, L0⟩ := boxed4 hW
    clear hW hq hs
    have LL : Hid (Below w.heap.size w W) := L0
    obtain ⟨H, hH⟩ : ∃ H, w.heap.size = H := ⟨_, rfl⟩
    rw [hH] at A0 B0 R0 X0 LL
    rw [hH]
    have HH : Hid (w.heap.size = H) := hH
    clear hH L0
    refine wp_loop_rounds 4 ?_
    rw [rounds_succ]
    have ca := A0.cell 1 _ rfl
    have cb := B0.cell 1 _ rfl
    have cx := X0.cell 2 _ rfl
    have fx := X0.froz 2
    have la := A0.lt
    have lb := B0.lt
    have lx := X0.lt
    go_wp2_with fail
    go_region
    have A1 := A0.far (c := H + 1 + 1 + 1) (j := 2) (by omega) (.int .i64 (wrap64 (bp0 - ap0)))
    have B1 := B0.far (c := H + 1 + 1 + 1) (j := 2) (by omega) (.int .i64 (wrap64 (bp0 - ap0)))
    have R1 := R0.far (c := H + 1 + 1 + 1) (j := 2) (by omega) (.int .i64 (wrap64 (bp0 - ap0)))
    have X1 := X0.put (j := 2) (.int .i64 (wrap64 (bp0 - ap0))) (by simp)
    simp only [List.set] at X1
    have LL1 : Hid (Below H w (W.setCell ⟨H + 1 + 1 + 1, 2, none⟩ (.int .i64 (wrap64 (bp0 - ap0)))).drew) := (LL.out.setCell (by exact (by omega : H ≤ H + 1 + 1 + 1)) _).drew
    generalize (W.setCell ⟨H + 1 + 1 + 1, 2, none⟩ (.int .i64 (wrap64 (bp0 - ap0)))).drew = W1 at A1 B1 R1 X1 LL1 ⊢
    clear ca cb cx fx la lb lx A0 B0 R0 X0 LL
    have ca := A1.cell 4 _ rfl
    have cb := B1.cell 4 _ rfl
    have cx := X1.cell 5 _ rfl
    have fx := X1.froz 5
    have la := A1.lt
    have lb := B1.lt
    have lx := X1.lt
    go_wp2_with fail
    go_region
    have A2 := A1.far (c := H + 1 + 1 + 1) (j := 5) (by omega) (.int .i64 (wrap64 (bv0 - av0)))
    have B2 := B1.far (c := H + 1 + 1 + 1) (j := 5) (by omega) (.int .i64 (wrap64 (bv0 - av0)))
    have R2 := R1.far (c := H + 1 + 1 + 1) (j := 5) (by omega) (.int .i64 (wrap64 (bv0 - av0)))
    have X2 := X1.put (j := 5) (.int .i64 (wrap64 (bv0 - av0))) (by simp)
    simp only [List.set] at X2
    have LL2 : Hid (Below H w (W1.setCell ⟨H + 1 + 1 + 1, 5, none⟩ (.int .i64 (wrap64 (bv0 - av0)))).drew) := (LL1.out.setCell (by exact (by omega : H ≤ H + 1 + 1 + 1)) _).drew
    generalize (W1.setCell ⟨H + 1 + 1 + 1, 5, none⟩ (.int .i64 (wrap64 (bv0 - av0)))).drew = W2 at A2 B2 R2 X2 LL2 ⊢
    clear ca cb cx fx la lb lx A1 B1 R1 X1 LL1
    go_wp2_with fail
    rw [rounds_succ]
    have ca := A2.cell 2 _ rfl
    have cb := B2.cell 2 _ rfl
    have cx := X2.cell 3 _ rfl
    have fx := X2.froz 3
    have la := A2.lt
    have lb := B2.lt
    have lx := X2.lt
    go_wp2_with fail
    go_region
    have A3 := A2.far (c := H + 1 + 1 + 1) (j := 3) (by omega) (.int .i64 (wrap64 (bp1 - ap1)))
    have B3 := B2.far (c := H + 1 + 1 + 1) (j := 3) (by omega) (.int .i64 (wrap64 (bp1 - ap1)))
    have R3 := R2.far (c := H + 1 + 1 + 1) (j := 3) (by omega) (.int .i64 (wrap64 (bp1 - ap1)))
    have X3 := X2.put (j := 3) (.int .i64 (wrap64 (bp1 - ap1))) (by simp)
    simp only [List.set] at X3
    have LL3 : Hid (Below H w (W2.setCell ⟨H + 1 + 1 + 1, 3, none⟩ (.int .i64 (wrap64 (bp1 - ap1)))).drew) := (LL2.out.setCell (by exact (by omega : H ≤ H + 1 + 1 + 1)) _).drew
    generalize (W2.setCell ⟨H + 1 + 1 + 1, 3, none⟩ (.int .i64 (wrap64 (bp1 - ap1)))).drew = W3 at A3 B3 R3 X3 LL3 ⊢
    clear ca cb cx fx la lb lx A2 B2 R2 X2 LL2
    have ca := A3.cell 5 _ rfl
    have cb := B3.cell 5 _ rfl
    have cx := X3.cell 6 _ rfl
    have fx := X3.froz 6
    have la := A3.lt
    have lb := B3.lt
    have lx := X3.lt
    go_wp2_with fail
    go_region
    have A4 := A3.far (c := H + 1 + 1 + 1) (j := 6) (by omega) (.int .i64 (wrap64 (bv1 - av1)))
    have B4 := B3.far (c := H + 1 + 1 + 1) (j := 6) (by omega) (.int .i64 (wrap64 (bv1 - av1)))
    have R4 := R3.far (c := H + 1 + 1 + 1) (j := 6) (by omega) (.int .i64 (wrap64 (bv1 - av1)))
    have X4 := X3.put (j := 6) (.int .i64 (wrap64 (bv1 - av1))) (by simp)
    simp only [List.set] at X4
    have LL4 : Hid (Below H w (W3.setCell ⟨H + 1 + 1 + 1, 6, none⟩ (.int .i64 (wrap64 (bv1 - av1)))).drew) := (LL3.out.setCell (by exact (by omega : H ≤ H + 1 + 1 + 1)) _).drew
    generalize (W3.setCell ⟨H + 1 + 1 + 1, 6, none⟩ (.int .i64 (wrap64 (bv1 - av1)))).drew = W4 at A4 B4 R4 X4 LL4 ⊢
    clear ca cb cx fx la lb lx A3 B3 R3 X3 LL3
    go_wp2_with fail
    rw [rounds_succ]
    have ca := A4.cell 3 _ rfl
    have cb := B4.cell 3 _ rfl
    have cx := X4.cell 4 _ rfl
    have fx := X4.froz 4
    have la := A4.lt
    have lb := B4.lt
    have lx := X4.lt
    go_wp2_with fail
    go_region
    have A5 := A4.far (c := H + 1 + 1 + 1) (j := 4) (by omega) (.int .i64 (wrap64 (bp2 - ap2)))
    have B5 := B4.far (c := H + 1 + 1 + 1) (j := 4) (by omega) (.int .i64 (wrap64 (bp2 - ap2)))
    have R5 := R4.far (c := H + 1 + 1 + 1) (j := 4) (by omega) (.int .i64 (wrap64 (bp2 - ap2)))
    have X5 := X4.put (j := 4) (.int .i64 (wrap64 (bp2 - ap2))) (by simp)
    simp only [List.set] at X5
    have LL5 : Hid (Below H w (W4.setCell ⟨H + 1 + 1 + 1, 4, none⟩ (.int .i64 (wrap64 (bp2 - ap2)))).drew) := (LL4.out.setCell (by exact (by omega : H ≤ H + 1 + 1 + 1)) _).drew
    generalize (W4.setCell ⟨H + 1 + 1 + 1, 4, none⟩ (.int .i64 (wrap64 (bp2 - ap2)))).drew = W5 at A5 B5 R5 X5 LL5 ⊢
    clear ca cb cx fx la lb lx A4 B4 R4 X4 LL4
    have ca := A5.cell 6 _ rfl
    have cb := B5.cell 6 _ rfl
    have cx := X5.cell 7 _ rfl
    have fx := X5.froz 7
    have la := A5.lt
    have lb := B5.lt
    have lx := X5.lt
    go_wp2_with fail
    go_region
    have A6 := A5.far (c := H + 1 + 1 + 1) (j := 7) (by omega) (.int .i64 (wrap64 (bv2 - av2)))
    have B6 := B5.far (c := H + 1 + 1 + 1) (j := 7) (by omega) (.int .i64 (wrap64 (bv2 - av2)))
    have R6 := R5.far (c := H + 1 + 1 + 1) (j := 7) (by omega) (.int .i64 (wrap64 (bv2 - av2)))
    have X6 := X5.put (j := 7) (.int .i64 (wrap64 (bv2 - av2))) (by simp)
    simp only [List.set] at X6
    have LL6 : Hid (Below H w (W5.setCell ⟨H + 1 + 1 + 1, 7, none⟩ (.int .i64 (wrap64 (bv2 - av2)))).drew) := (LL5.out.setCell (by exact (by omega : H ≤ H + 1 + 1 + 1)) _).drew
    generalize (W5.setCell ⟨H + 1 + 1 + 1, 7, none⟩ (.int .i64 (wrap64 (bv2 - av2)))).drew = W6 at A6 B6 R6 X6 LL6 ⊢
    clear ca cb cx fx la lb lx A5 B5 R5 X5 LL5
    go_wp2_with fail
    rw [rounds_succ]
    have LX := X6.lt
    have LR := R6.lt
    have c0 := X6.cell 0 _ rfl
    have d0 := R6.cell 0 _ rfl
    have f0 := R6.froz 0
    have c1 := X6.cell 1 _ rfl
    have d1 := R6.cell 1 _ rfl
    have f1 := R6.froz 1
    have c2 := X6.cell 2 _ rfl
    have d2 := R6.cell 2 _ rfl
    have f2 := R6.froz 2
    have c3 := X6.cell 3 _ rfl
    have d3 := R6.cell 3 _ rfl
    have f3 := R6.froz 3
    have c4 := X6.cell 4 _ rfl
    have d4 := R6.cell 4 _ rfl
    have f4 := R6.froz 4
    have c5 := X6.cell 5 _ rfl
    have d5 := R6.cell 5 _ rfl
    have f5 := R6.froz 5
    have c6 := X6.cell 6 _ rfl
    have d6 := R6.cell 6 _ rfl
    have f6 := R6.froz 6
    have c7 := X6.cell 7 _ rfl
    have d7 := R6.cell 7 _ rfl
    have f7 := R6.froz 7
    have c8 := X6.cell 8 _ rfl
    have d8 := R6.cell 8 _ rfl
    have f8 := R6.froz 8
    go_wp2_with fail
    have RB : Blk (((((((((W6.setCell ⟨H + 1 + 1, 0, none⟩ (.int .i64 1)).setCell ⟨H + 1 + 1, 1, none⟩ (.int .i64 bi)).setCell ⟨H + 1 + 1, 2, none⟩ (.int .i64 (wrap64 (bp0 - ap0)))).setCell ⟨H + 1 + 1, 3, none⟩ (.int .i64 (wrap64 (bp1 - ap1)))).setCell ⟨H + 1 + 1, 4, none⟩ (.int .i64 (wrap64 (bp2 - ap2)))).setCell ⟨H + 1 + 1, 5, none⟩ (.int .i64 (wrap64 (bv0 - av0)))).setCell ⟨H + 1 + 1, 6, none⟩ (.int .i64 (wrap64 (bv1 - av1)))).setCell ⟨H + 1 + 1, 7, none⟩ (.int .i64 (wrap64 (bv2 - av2)))).setCell ⟨H + 1 + 1, 8, none⟩ (.int .u16 (IntKind.u16.wrap (ba - aa)))) (H + 1 + 1) [.int .i64 1, .int .i64 bi, .int .i64 (wrap64 (bp0 - ap0)), .int .i64 (wrap64 (bp1 - ap1)), .int .i64 (wrap64 (bp2 - ap2)), .int .i64 (wrap64 (bv0 - av0)), .int .i64 (wrap64 (bv1 - av1)), .int .i64 (wrap64 (bv2 - av2)), .int .u16 (IntKind.u16.wrap (ba - aa))] := R6.nine
    have LB : Below H w (((((((((W6.setCell ⟨H + 1 + 1, 0, none⟩ (.int .i64 1)).setCell ⟨H + 1 + 1, 1, none⟩ (.int .i64 bi)).setCell ⟨H + 1 + 1, 2, none⟩ (.int .i64 (wrap64 (bp0 - ap0)))).setCell ⟨H + 1 + 1, 3, none⟩ (.int .i64 (wrap64 (bp1 - ap1)))).setCell ⟨H + 1 + 1, 4, none⟩ (.int .i64 (wrap64 (bp2 - ap2)))).setCell ⟨H + 1 + 1, 5, none⟩ (.int .i64 (wrap64 (bv0 - av0)))).setCell ⟨H + 1 + 1, 6, none⟩ (.int .i64 (wrap64 (bv1 - av1)))).setCell ⟨H + 1 + 1, 7, none⟩ (.int .i64 (wrap64 (bv2 - av2)))).setCell ⟨H + 1 + 1, 8, none⟩ (.int .u16 (IntKind.u16.wrap (ba - aa)))) := below_nine LL6.out (by omega)
    generalize (((((((((W6.setCell ⟨H + 1 + 1, 0, none⟩ (.int .i64 1)).setCell ⟨H + 1 + 1, 1, none⟩ (.int .i64 bi)).setCell ⟨H + 1 + 1, 2, none⟩ (.int .i64 (wrap64 (bp0 - ap0)))).setCell ⟨H + 1 + 1, 3, none⟩ (.int .i64 (wrap64 (bp1 - ap1)))).setCell ⟨H + 1 + 1, 4, none⟩ (.int .i64 (wrap64 (bp2 - ap2)))).setCell ⟨H + 1 + 1, 5, none⟩ (.int .i64 (wrap64 (bv0 - av0)))).setCell ⟨H + 1 + 1, 6, none⟩ (.int .i64 (wrap64 (bv1 - av1)))).setCell ⟨H + 1 + 1, 7, none⟩ (.int .i64 (wrap64 (bv2 - av2)))).setCell ⟨H + 1 + 1, 8, none⟩ (.int .u16 (IntKind.u16.wrap (ba - aa)))) = W7 at RB LB ⊢
    have e0 := RB.cell 0 _ rfl
    have e1 := RB.cell 1 _ rfl
    have e2 := RB.cell 2 _ rfl
    have e3 := RB.cell 3 _ rfl
    have e4 := RB.cell 4 _ rfl
    have e5 := RB.cell 5 _ rfl
    have e6 := RB.cell 6 _ rfl
    have e7 := RB.cell 7 _ rfl
    have e8 := RB.cell 8 _ rfl
    refine bodyPost_ret (v := .tuple #[recV (updR ⟨ai, ap0, ap1, ap2, av0, av1, av2, aa, ag⟩ ⟨bi, bp0, bp1, bp2, bv0, bv1, bv2, ba, ag⟩), .bool true]) (by simp [results, Tryz.results95, go_sem, updR, e0, e1, e2, e3, e4, e5, e6, e7, e8]) rfl ⟨by rw [HR4.out]; rfl, by rw [HH.out]; exact LB⟩
  · have HR4 : Hid (r = ⟨3, bi, bp0, bp1, bp2, bv0, bv1, bv2, ba⟩) := by have h := HR3.out; rw [if_neg hg] at h; exact h
    clear HR3
    go_wp2_with fail
    refine bodyPost_ret (v := .tuple #[recV ⟨3, bi, bp0, bp1, bp2, bv0, bv1, bv2, ba⟩, .bool true]) (by simp [results, Tryz.results95, go_sem]) rfl ⟨by rw [HR4.out]; rfl, ?_⟩
    exact (((Below.refl _ _).alloc (Nat.le_refl _) _).alloc (by simp) _).alloc (by simp; omega) _
set_option maxRecDepth 8000 in
set_option maxHeartbeats 4000000 in
theorem doc_diff (w : World) (a b : En) : Calls Tryz.prog 37 #[entV a, entV b] w fun e w' => e = .returned (.tuple #[recV (difR a b), .bool (!entB a b)]) ∧ Below w.heap.size w w' := by
  obtain ⟨ai, ap0, ap1, ap2, av0, av1, av2, aa, ag⟩ := a
  obtain ⟨bi, bp0, bp1, bp2, bv0, bv1, bv2, ba, bg⟩ := b
  obtain ⟨r, hr⟩ : ∃ r, difR ⟨ai, ap0, ap1, ap2, av0, av1, av2, aa, ag⟩ ⟨bi, bp0, bp1, bp2, bv0, bv1, bv2, ba, bg⟩ = r := ⟨_, rfl⟩
  obtain ⟨q, hq⟩ : ∃ q, entB ⟨ai, ap0, ap1, ap2, av0, av1, av2, aa, ag⟩ ⟨bi, bp0, bp1, bp2, bv0, bv1, bv2, ba, bg⟩ = q := ⟨_, rfl⟩
  have HR : Hid (r = if q = true then noRec else if ag = bg then updR ⟨ai, ap0, ap1, ap2, av0, av1, av2, aa, ag⟩ ⟨bi, bp0, bp1, bp2, bv0, bv1, bv2, ba, bg⟩ else ⟨3, bi, bp0, bp1, bp2, bv0, bv1, bv2, ba⟩) := by rw [← hr, ← hq]; rfl
  rw [hr, hq]
  clear hr
  go_enter Tryz.func37, Tryz.ntmps37
  by_cases hs : q = true
  · have HR2 : Hid (r = noRec) := by have h := HR.out; rw [if_pos hs] at h; exact h
    clear HR
    subst hs
    go_wp2_with fail
    refine bodyPost_ret (v := .tuple #[recV noRec, .bool false]) (by simp [results, Tryz.results37, go_sem, noRec]) rfl ⟨by rw [HR2.out]; rfl, ?_⟩
    exact (((Below.refl _ _).alloc (Nat.le_refl _) _).alloc (by simp) _).alloc (by simp; omega) _
  have q0 : q = false := by simpa using hs
  have HR3 : Hid (r = if ag = bg then updR ⟨ai, ap0, ap1, ap2, av0, av1, av2, aa, ag⟩ ⟨bi, bp0, bp1, bp2, bv0, bv1, bv2, ba, bg⟩ else ⟨3, bi, bp0, bp1, bp2, bv0, bv1, bv2, ba⟩) := by have h := HR.out; rw [if_neg hs] at h; exact h
  clear HR
  subst q0
  by_cases hg : ag = bg
  · have HR4 : Hid (r = updR ⟨ai, ap0, ap1, ap2, av0, av1, av2, aa, ag⟩ ⟨bi, bp0, bp1, bp2, bv0, bv1, bv2, ba, bg⟩) := by have h := HR3.out; rw [if_pos hg] at h; exact h
    clear HR3
    subst hg
    go_wp2_with fail
    generalize hW : (((w.alloc (.cells (entA ⟨ai, ap0, ap1, ap2, av0, av1, av2, aa, ag⟩) 40)).alloc (.cells (entA ⟨bi, bp0, bp1, bp2, bv0, bv1, bv2, ba, ag⟩) 40)).alloc (.cells (recA ⟨0, 0, 0, 0, 0, 0, 0, 0, 0⟩) 79)).alloc (.cells (recA ⟨1, bi, 0, 0, 0, 0, 0, 0, IntKind.u16.wrap (ba - aa)⟩) 79) = W
    obtain ⟨A0, B0, R0, X0, L0⟩ := boxed4 hW
    clear hW hq hs
    have LL : Hid (Below w.heap.size w W) := L0
    obtain ⟨H, hH⟩ : ∃ H, w.heap.size = H := ⟨_, rfl⟩
    rw [hH] at A0 B0 R0 X0 LL
    rw [hH]
    have HH : Hid (w.heap.size = H) := hH
    clear hH L0
    refine wp_loop_rounds 4 ?_
    rw [rounds_succ]
    have ca := A0.cell 1 _ rfl
    have cb := B0.cell 1 _ rfl
    have cx := X0.cell 2 _ rfl
    have fx := X0.froz 2
    have la := A0.lt
    have lb := B0.lt
    have lx := X0.lt
    go_wp2_with fail
    go_region
    have A1 := A0.far (c := H + 1 + 1 + 1) (j := 2) (by omega) (.int .i64 (wrap64 (bp0 - ap0)))
    have B1 := B0.far (c := H + 1 + 1 + 1) (j := 2) (by omega) (.int .i64 (wrap64 (bp0 - ap0)))
    have R1 := R0.far (c := H + 1 + 1 + 1) (j := 2) (by omega) (.int .i64 (wrap64 (bp0 - ap0)))
    have X1 := X0.put (j := 2) (.int .i64 (wrap64 (bp0 - ap0))) (by simp)
    simp only [List.set] at X1
    have LL1 : Hid (Below H w (W.setCell ⟨H + 1 + 1 + 1, 2, none⟩ (.int .i64 (wrap64 (bp0 - ap0)))).drew) := (LL.out.setCell (by exact (by omega : H ≤ H + 1 + 1 + 1)) _).drew
    generalize (W.setCell ⟨H + 1 + 1 + 1, 2, none⟩ (.int .i64 (wrap64 (bp0 - ap0)))).drew = W1 at A1 B1 R1 X1 LL1 ⊢
    clear ca cb cx fx la lb lx A0 B0 R0 X0 LL
    have ca := A1.cell 4 _ rfl
    have cb := B1.cell 4 _ rfl
    have cx := X1.cell 5 _ rfl
    have fx := X1.froz 5
    have la := A1.lt
    have lb := B1.lt
    have lx := X1.lt
    go_wp2_with fail
    go_region
    have A2 := A1.far (c := H + 1 + 1 + 1) (j := 5) (by omega) (.int .i64 (wrap64 (bv0 - av0)))
    have B2 := B1.far (c := H + 1 + 1 + 1) (j := 5) (by omega) (.int .i64 (wrap64 (bv0 - av0)))
    have R2 := R1.far (c := H + 1 + 1 + 1) (j := 5) (by omega) (.int .i64 (wrap64 (bv0 - av0)))
    have X2 := X1.put (j := 5) (.int .i64 (wrap64 (bv0 - av0))) (by simp)
    simp only [List.set] at X2
    have LL2 : Hid (Below H w (W1.setCell ⟨H + 1 + 1 + 1, 5, none⟩ (.int .i64 (wrap64 (bv0 - av0)))).drew) := (LL1.out.setCell (by exact (by omega : H ≤ H + 1 + 1 + 1)) _).drew
    generalize (W1.setCell ⟨H + 1 + 1 + 1, 5, none⟩ (.int .i64 (wrap64 (bv0 - av0)))).drew = W2 at A2 B2 R2 X2 LL2 ⊢
    clear ca cb cx fx la lb lx A1 B1 R1 X1 LL1
    go_wp2_with fail
    rw [rounds_succ]
    have ca := A2.cell 2 _ rfl
    have cb := B2.cell 2 _ rfl
    have cx := X2.cell 3 _ rfl
    have fx := X2.froz 3
    have la := A2.lt
    have lb := B2.lt
    have lx := X2.lt
    go_wp2_with fail
    go_region
    have A3 := A2.far (c := H + 1 + 1 + 1) (j := 3) (by omega) (.int .i64 (wrap64 (bp1 - ap1)))
    have B3 := B2.far (c := H + 1 + 1 + 1) (j := 3) (by omega) (.int .i64 (wrap64 (bp1 - ap1)))
    have R3 := R2.far (c := H + 1 + 1 + 1) (j := 3) (by omega) (.int .i64 (wrap64 (bp1 - ap1)))
    have X3 := X2.put (j := 3) (.int .i64 (wrap64 (bp1 - ap1))) (by simp)
    simp only [List.set] at X3
    have LL3 : Hid (Below H w (W2.setCell ⟨H + 1 + 1 + 1, 3, none⟩ (.int .i64 (wrap64 (bp1 - ap1)))).drew) := (LL2.out.setCell (by exact (by omega : H ≤ H + 1 + 1 + 1)) _).drew
    generalize (W2.setCell ⟨H + 1 + 1 + 1, 3, none⟩ (.int .i64 (wrap64 (bp1 - ap1)))).drew = W3 at A3 B3 R3 X3 LL3 ⊢
    clear ca cb cx fx la lb lx A2 B2 R2 X2 LL2
    have ca := A3.cell 5 _ rfl
    have cb := B3.cell 5 _ rfl
    have cx := X3.cell 6 _ rfl
    have fx := X3.froz 6
    have la := A3.lt
    have lb := B3.lt
    have lx := X3.lt
    go_wp2_with fail
    go_region
    have A4 := A3.far (c := H + 1 + 1 + 1) (j := 6) (by omega) (.int .i64 (wrap64 (bv1 - av1)))
    have B4 := B3.far (c := H + 1 + 1 + 1) (j := 6) (by omega) (.int .i64 (wrap64 (bv1 - av1)))
    have R4 := R3.far (c := H + 1 + 1 + 1) (j := 6) (by omega) (.int .i64 (wrap64 (bv1 - av1)))
    have X4 := X3.put (j := 6) (.int .i64 (wrap64 (bv1 - av1))) (by simp)
    simp only [List.set] at X4
    have LL4 : Hid (Below H w (W3.setCell ⟨H + 1 + 1 + 1, 6, none⟩ (.int .i64 (wrap64 (bv1 - av1)))).drew) := (LL3.out.setCell (by exact (by omega : H ≤ H + 1 + 1 + 1)) _).drew
    generalize (W3.setCell ⟨H + 1 + 1 + 1, 6, none⟩ (.int .i64 (wrap64 (bv1 - av1)))).drew = W4 at A4 B4 R4 X4 LL4 ⊢
    clear ca cb cx fx la lb lx A3 B3 R3 X3 LL3
    go_wp2_with fail
    rw [rounds_succ]
    have ca := A4.cell 3 _ rfl
    have cb := B4.cell 3 _ rfl
    have cx := X4.cell 4 _ rfl
    have fx := X4.froz 4
    have la := A4.lt
    have lb := B4.lt
    have lx := X4.lt
    go_wp2_with fail
    go_region
    have A5 := A4.far (c := H + 1 + 1 + 1) (j := 4) (by omega) (.int .i64 (wrap64 (bp2 - ap2)))
    have B5 := B4.far (c := H + 1 + 1 + 1) (j := 4) (by omega) (.int .i64 (wrap64 (bp2 - ap2)))
    have R5 := R4.far (c := H + 1 + 1 + 1) (j := 4) (by omega) (.int .i64 (wrap64 (bp2 - ap2)))
    have X5 := X4.put (j := 4) (.int .i64 (wrap64 (bp2 - ap2))) (by simp)
    simp only [List.set] at X5
    have LL5 : Hid (Below H w (W4.setCell ⟨H + 1 + 1 + 1, 4, none⟩ (.int .i64 (wrap64 (bp2 - ap2)))).drew) := (LL4.out.setCell (by exact (by omega : H ≤ H + 1 + 1 + 1)) _).drew
    generalize (W4.setCell ⟨H + 1 + 1 + 1, 4, none⟩ (.int .i64 (wrap64 (bp2 - ap2)))).drew = W5 at A5 B5 R5 X5 LL5 ⊢
    clear ca cb cx fx la lb lx A4 B4 R4 X4 LL4
    have ca := A5.cell 6 _ rfl
    have cb := B5.cell 6 _ rfl
    have cx := X5.cell 7 _ rfl
    have fx := X5.froz 7
    have la := A5.lt
    have lb := B5.lt
    have lx := X5.lt
    go_wp2_with fail
    go_region
    have A6 := A5.far (c := H + 1 + 1 + 1) (j := 7) (by omega) (.int .i64 (wrap64 (bv2 - av2)))
    have B6 := B5.far (c := H + 1 + 1 + 1) (j := 7) (by omega) (.int .i64 (wrap64 (bv2 - av2)))
    have R6 := R5.far (c := H + 1 + 1 + 1) (j := 7) (by omega) (.int .i64 (wrap64 (bv2 - av2)))
    have X6 := X5.put (j := 7) (.int .i64 (wrap64 (bv2 - av2))) (by simp)
    simp only [List.set] at X6
    have LL6 : Hid (Below H w (W5.setCell ⟨H + 1 + 1 + 1, 7, none⟩ (.int .i64 (wrap64 (bv2 - av2)))).drew) := (LL5.out.setCell (by exact (by omega : H ≤ H + 1 + 1 + 1)) _).drew
    generalize (W5.setCell ⟨H + 1 + 1 + 1, 7, none⟩ (.int .i64 (wrap64 (bv2 - av2)))).drew = W6 at A6 B6 R6 X6 LL6 ⊢
    clear ca cb cx fx la lb lx A5 B5 R5 X5 LL5
    go_wp2_with fail
    rw [rounds_succ]
    have LX := X6.lt
    have LR := R6.lt
    have c0 := X6.cell 0 _ rfl
    have d0 := R6.cell 0 _ rfl
    have f0 := R6.froz 0
    have c1 := X6.cell 1 _ rfl
    have d1 := R6.cell 1 _ rfl
    have f1 := R6.froz 1
    have c2 := X6.cell 2 _ rfl
    have d2 := R6.cell 2 _ rfl
    have f2 := R6.froz 2
    have c3 := X6.cell 3 _ rfl
    have d3 := R6.cell 3 _ rfl
    have f3 := R6.froz 3
    have c4 := X6.cell 4 _ rfl
    have d4 := R6.cell 4 _ rfl
    have f4 := R6.froz 4
    have c5 := X6.cell 5 _ rfl
    have d5 := R6.cell 5 _ rfl
    have f5 := R6.froz 5
    have c6 := X6.cell 6 _ rfl
    have d6 := R6.cell 6 _ rfl
    have f6 := R6.froz 6
    have c7 := X6.cell 7 _ rfl
    have d7 := R6.cell 7 _ rfl
    have f7 := R6.froz 7
    have c8 := X6.cell 8 _ rfl
    have d8 := R6.cell 8 _ rfl
    have f8 := R6.froz 8
    go_wp2_with fail
    have RB : Blk (((((((((W6.setCell ⟨H + 1 + 1, 0, none⟩ (.int .i64 1)).setCell ⟨H + 1 + 1, 1, none⟩ (.int .i64 bi)).setCell ⟨H + 1 + 1, 2, none⟩ (.int .i64 (wrap64 (bp0 - ap0)))).setCell ⟨H + 1 + 1, 3, none⟩ (.int .i64 (wrap64 (bp1 - ap1)))).setCell ⟨H + 1 + 1, 4, none⟩ (.int .i64 (wrap64 (bp2 - ap2)))).setCell ⟨H + 1 + 1, 5, none⟩ (.int .i64 (wrap64 (bv0 - av0)))).setCell ⟨H + 1 + 1, 6, none⟩ (.int .i64 (wrap64 (bv1 - av1)))).setCell ⟨H + 1 + 1, 7, none⟩ (.int .i64 (wrap64 (bv2 - av2)))).setCell ⟨H + 1 + 1, 8, none⟩ (.int .u16 (IntKind.u16.wrap (ba - aa)))) (H + 1 + 1) [.int .i64 1, .int .i64 bi, .int .i64 (wrap64 (bp0 - ap0)), .int .i64 (wrap64 (bp1 - ap1)), .int .i64 (wrap64 (bp2 - ap2)), .int .i64 (wrap64 (bv0 - av0)), .int .i64 (wrap64 (bv1 - av1)), .int .i64 (wrap64 (bv2 - av2)), .int .u16 (IntKind.u16.wrap (ba - aa))] := R6.nine
    have LB : Below H w (((((((((W6.setCell ⟨H + 1 + 1, 0, none⟩ (.int .i64 1)).setCell ⟨H + 1 + 1, 1, none⟩ (.int .i64 bi)).setCell ⟨H + 1 + 1, 2, none⟩ (.int .i64 (wrap64 (bp0 - ap0)))).setCell ⟨H + 1 + 1, 3, none⟩ (.int .i64 (wrap64 (bp1 - ap1)))).setCell ⟨H + 1 + 1, 4, none⟩ (.int .i64 (wrap64 (bp2 - ap2)))).setCell ⟨H + 1 + 1, 5, none⟩ (.int .i64 (wrap64 (bv0 - av0)))).setCell ⟨H + 1 + 1, 6, none⟩ (.int .i64 (wrap64 (bv1 - av1)))).setCell ⟨H + 1 + 1, 7, none⟩ (.int .i64 (wrap64 (bv2 - av2)))).setCell ⟨H + 1 + 1, 8, none⟩ (.int .u16 (IntKind.u16.wrap (ba - aa)))) := below_nine LL6.out (by omega)
    generalize (((((((((W6.setCell ⟨H + 1 + 1, 0, none⟩ (.int .i64 1)).setCell ⟨H + 1 + 1, 1, none⟩ (.int .i64 bi)).setCell ⟨H + 1 + 1, 2, none⟩ (.int .i64 (wrap64 (bp0 - ap0)))).setCell ⟨H + 1 + 1, 3, none⟩ (.int .i64 (wrap64 (bp1 - ap1)))).setCell ⟨H + 1 + 1, 4, none⟩ (.int .i64 (wrap64 (bp2 - ap2)))).setCell ⟨H + 1 + 1, 5, none⟩ (.int .i64 (wrap64 (bv0 - av0)))).setCell ⟨H + 1 + 1, 6, none⟩ (.int .i64 (wrap64 (bv1 - av1)))).setCell ⟨H + 1 + 1, 7, none⟩ (.int .i64 (wrap64 (bv2 - av2)))).setCell ⟨H + 1 + 1, 8, none⟩ (.int .u16 (IntKind.u16.wrap (ba - aa)))) = W7 at RB LB ⊢
    have e0 := RB.cell 0 _ rfl
    have e1 := RB.cell 1 _ rfl
    have e2 := RB.cell 2 _ rfl
    have e3 := RB.cell 3 _ rfl
    have e4 := RB.cell 4 _ rfl
    have e5 := RB.cell 5 _ rfl
    have e6 := RB.cell 6 _ rfl
    have e7 := RB.cell 7 _ rfl
    have e8 := RB.cell 8 _ rfl
    refine bodyPost_ret (v := .tuple #[recV (updR ⟨ai, ap0, ap1, ap2, av0, av1, av2, aa, ag⟩ ⟨bi, bp0, bp1, bp2, bv0, bv1, bv2, ba, ag⟩), .bool true]) (by simp [results, Tryz.results37, go_sem, updR, e0, e1, e2, e3, e4, e5, e6, e7, e8]) rfl ⟨by rw [HR4.out]; rfl, by rw [HH.out]; exact LB⟩
  · have HR4 : Hid (r = ⟨3, bi, bp0, bp1, bp2, bv0, bv1, bv2, ba⟩) := by have h := HR3.out; rw [if_neg hg] at h; exact h
    clear HR3
    go_wp2_with fail
    refine bodyPost_ret (v := .tuple #[recV ⟨3, bi, bp0, bp1, bp2, bv0, bv1, bv2, ba⟩, .bool true]) (by simp [results, Tryz.results37, go_sem]) rfl ⟨by rw [HR4.out]; rfl, ?_⟩
    exact (((Below.refl _ _).alloc (Nat.le_refl _) _).alloc (by simp) _).alloc (by simp; omega) _
end Go.Proofs.YtokegpajjicehaaGreat
