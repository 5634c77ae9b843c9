/-
  Layer 2 (vec), walked: Lerp, with its closure.
-/
import Derived.Test.YtlfpgpfjdobpeaaVec
import Derived.Test.YtlfpgpfjdobpeaaBetween
import Derived.Deep.DrawnRows
namespace Go.Proofs.Ytlfpgpfjdobpeaa
open Go.RowKit
attribute [local go_sem ↓] Go.wp_at_zero Go.wp_at_succ

theorem lerp1_fine (x y num den ev : Int) (hx : R64 x) (hy : R64 y) (h : fineB num den = true) (N D E : Nat) (u : World) (hN : Blk u N [.int .i64 num]) (hD : Blk u D [.int .i64 den]) (hE : Blk u E [.int .i64 ev]) :
    Calls Try.prog 35 #[.int .i64 x, .int .i64 y, .pointer (some ⟨N, 0, none⟩), .pointer (some ⟨D, 0, none⟩), .pointer (some ⟨E, 0, none⟩)] u
      fun e u' => e = .returned (.int .i64 (lerpI x y num den)) ∧ ∃ u1, Gr u.heap.size u u1 ∧ u' = u1.setCell ⟨E, 0, none⟩ (.int .i64 0) := by
  have x0 := hN.cell 0 _ rfl
  have x1 := hD.cell 0 _ rfl
  go_enter Try.func35, Try.ntmps35
  go_wp2_with fail
  refine (lerp_any x y num den hx hy h _).mono ?_; rintro e u1 ⟨rfl, g1⟩
  have hE1 := hE.gr g1 hE.lt
  have y0 := hE1.cell 0 _ rfl
  have y1 := hE1.froz 0
  go_wp2_with fail
  go_ret
  exact ⟨rfl, _, g1, rfl⟩
theorem lerp1_no (x y num den ev : Int) (_ : R64 x) (_ : R64 y) (h : fineB num den = false) (N D E : Nat) (u : World) (hN : Blk u N [.int .i64 num]) (hD : Blk u D [.int .i64 den]) (hE : Blk u E [.int .i64 ev]) :
    Calls Try.prog 35 #[.int .i64 x, .int .i64 y, .pointer (some ⟨N, 0, none⟩), .pointer (some ⟨D, 0, none⟩), .pointer (some ⟨E, 0, none⟩)] u
      fun e u' => e = .returned (.int .i64 (0)) ∧ ∃ u1, Gr u.heap.size u u1 ∧ u' = u1.setCell ⟨E, 0, none⟩ (.int .i64 3) := by
  have x0 := hN.cell 0 _ rfl
  have x1 := hD.cell 0 _ rfl
  go_enter Try.func35, Try.ntmps35
  go_wp2_with fail
  refine (lerp_no x y num den h _).mono ?_; rintro e u1 ⟨rfl, g1⟩
  subst g1
  have hE1 := hE
  have y0 := hE1.cell 0 _ rfl
  have y1 := hE1.froz 0
  go_wp2_with fail
  go_ret
  exact ⟨rfl, _, Gr.refl _ _, rfl⟩

/-- What the closure's calls leave as it is. -/
structure LKeep (w : World) (H : Nat) (num den : Int) (u : World) : Prop where
  n : Blk u (H + 1 + 1) [.int .i64 num]
  d : Blk u (H + 1 + 1 + 1) [.int .i64 den]
  r : Blk u (H + 1 + 1 + 1 + 1) [.int .i64 0, .int .i64 0, .int .i64 0]
  g : Gr w.heap.size w u
theorem LKeep.gr {w u u' : World} {H : Nat} {num den : Int} (h : LKeep w H num den u) (hH : w.heap.size = H) {M : Nat} (hM : H + 1 + 1 + 1 + 1 + 1 + 1 ≤ M) (g : Gr M u u') : LKeep w H num den u' :=
  ⟨h.n.gr g (by omega), h.d.gr g (by omega), h.r.gr g (by omega), h.g.trans (g.mono (by omega))⟩
theorem LKeep.set {w u : World} {H : Nat} {num den : Int} (h : LKeep w H num den u) (hH : w.heap.size = H) (v : Value) : LKeep w H num den (u.setCell ⟨H + 1 + 1 + 1 + 1 + 1, 0, none⟩ v) :=
  ⟨h.n.other (fun h => by have h' : H + 1 + 1 + 1 + 1 + 1 = H + 1 + 1 := h; omega) _, h.d.other (fun h => by have h' : H + 1 + 1 + 1 + 1 + 1 = H + 1 + 1 + 1 := h; omega) _,
    h.r.other (fun h => by have h' : H + 1 + 1 + 1 + 1 + 1 = H + 1 + 1 + 1 + 1 := h; omega) _, h.g.setCell (show w.heap.size ≤ H + 1 + 1 + 1 + 1 + 1 by omega) _⟩

set_option maxHeartbeats 1000000 in
theorem vlerp_any (a0 a1 a2 b0 b1 b2 num den : Int) (ha0 : R64 a0) (ha1 : R64 a1) (ha2 : R64 a2) (hb0 : R64 b0) (hb1 : R64 b1) (hb2 : R64 b2) (h : fineB num den = true) (w : World) :
    Calls Try.prog 18 #[.agg #[.int .i64 a0, .int .i64 a1, .int .i64 a2], .agg #[.int .i64 b0, .int .i64 b1, .int .i64 b2], .int .i64 num, .int .i64 den] w
      fun e w' => e = .returned (.tuple #[.agg #[.int .i64 (lerpI a0 b0 num den), .int .i64 (lerpI a1 b1 num den), .int .i64 (lerpI a2 b2 num den)], .int .i64 0]) ∧ Gr w.heap.size w w' := by
  obtain ⟨H, hH⟩ : ∃ H, w.heap.size = H := ⟨_, rfl⟩
  go_enter Try.func18, Try.ntmps18
  have hmf : ∀ (fn : Fn) (first cap : Array Value) (w : World), (Instr.makeFunc fn first cap).run Try.prog w = .ok (.func fn first cap) w := fun _ _ _ _ => rfl
  go_wp2_with fail
  obtain ⟨W, hW⟩ : ∃ W, ((((((w.alloc (.cells #[.int .i64 a0, .int .i64 a1, .int .i64 a2] 22)).alloc (.cells #[.int .i64 b0, .int .i64 b1, .int .i64 b2] 22)).alloc (.cells #[.int .i64 num] 2)).alloc (.cells #[.int .i64 den] 2)).alloc (.cells #[.int .i64 0, .int .i64 0, .int .i64 0] 22)).alloc (.cells #[.int .i64 0] 29)) = W := ⟨_, rfl⟩
  have A0 : Blk W (H) [.int .i64 a0, .int .i64 a1, .int .i64 a2] := by rw [← hW]; exact ((((((Blk.new _ _ _ hH.symm)).alloc _).alloc _).alloc _).alloc _).alloc _
  have B0 : Blk W (H + 1) [.int .i64 b0, .int .i64 b1, .int .i64 b2] := by rw [← hW]; exact (((((Blk.new _ _ _ (by simp [hH]))).alloc _).alloc _).alloc _).alloc _
  have N0 : Blk W (H + 1 + 1) [.int .i64 num] := by rw [← hW]; exact ((((Blk.new _ _ _ (by simp [hH]))).alloc _).alloc _).alloc _
  have D0 : Blk W (H + 1 + 1 + 1) [.int .i64 den] := by rw [← hW]; exact (((Blk.new _ _ _ (by simp [hH]))).alloc _).alloc _
  have R0 : Blk W (H + 1 + 1 + 1 + 1) [.int .i64 0, .int .i64 0, .int .i64 0] := by rw [← hW]; exact ((Blk.new _ _ _ (by simp [hH]))).alloc _
  have E0 : Blk W (H + 1 + 1 + 1 + 1 + 1) [.int .i64 0] := by rw [← hW]; exact (Blk.new _ _ _ (by simp [hH]))
  have G0 : Gr w.heap.size w W := by rw [← hW]; repeat' (first | exact Gr.refl _ _ | refine Gr.alloc ?_ ?_ _ _ | (simp; done) | (simp; omega))
  have Z0 : W.heap.size = H + 1 + 1 + 1 + 1 + 1 + 1 := by rw [← hW]; simp [hH]
  rw [hW]
  clear hW
  refine (each_any 35 #[.pointer (some ⟨H + 1 + 1, 0, none⟩), .pointer (some ⟨H + 1 + 1 + 1, 0, none⟩), .pointer (some ⟨H + 1 + 1 + 1 + 1 + 1, 0, none⟩)] (fun x y => lerpI x y num den)
    (fun u => LKeep w H num den u ∧ ∃ ev : Int, Blk u (H + 1 + 1 + 1 + 1 + 1) [.int .i64 ev]) (fun u => LKeep w H num den u ∧ Blk u (H + 1 + 1 + 1 + 1 + 1) [.int .i64 0]) W
    (enters_of Try.func35 (by kernel_rfl) rfl)
    (fun u u' h g => ⟨h.1.gr hH (by omega) g, h.2.elim fun ev k => ⟨ev, k.gr g (by omega)⟩⟩)
    (fun u u' h g => ⟨h.1.gr hH (by omega) g, h.2.gr g (by omega)⟩)
    (fun u h => ⟨h.1, _, h.2⟩)
    (fun x y u hx hy hu => by
      obtain ⟨hk, ev, he⟩ := hu
      refine (lerp1_fine x y num den ev hx hy h _ _ _ u hk.n hk.d he).mono ?_
      rintro e u' ⟨rfl, u1, g1, rfl⟩
      have hm : H + 1 + 1 + 1 + 1 + 1 + 1 ≤ u.heap.size := by have := he.lt; omega
      have hk1 := hk.gr hH hm g1
      have he1 := he.gr g1 he.lt
      refine ⟨rfl, ⟨hk1.set hH _, he1.set 0 _ (by simp)⟩, ?_, ?_, ?_⟩
      · simpa using g1.size
      · intro b o hb hlt
        rw [World.cell?_setCell_other _ _ _ _ (by intro h'; have h'' := congrArg Addr.block h'; simp at h''; omega)]
        exact g1.cell b o hlt
      · intro b o
        exact (World.frozen?_setCell _ _ _ _).trans (g1.frozen b o))
    a0 a1 a2 b0 b1 b2 ha0 ha1 ha2 hb0 hb1 hb2 ⟨⟨N0, D0, R0, G0⟩, _, E0⟩).mono ?_
  rintro e w1 ⟨rfl, hk, he⟩
  go_wp2_with fail
  obtain ⟨M, hM⟩ : ∃ M, w1.heap.size = M := ⟨_, rfl⟩
  obtain ⟨W2, hW2⟩ : ∃ W, w1.alloc (.cells #[.int .i64 (lerpI a0 b0 num den), .int .i64 (lerpI a1 b1 num den), .int .i64 (lerpI a2 b2 num den)] 22) = W := ⟨_, rfl⟩
  have T2 : Blk W2 M [.int .i64 (lerpI a0 b0 num den), .int .i64 (lerpI a1 b1 num den), .int .i64 (lerpI a2 b2 num den)] := by rw [← hW2]; exact Blk.new _ _ _ hM.symm
  have E2 : Blk W2 (H + 1 + 1 + 1 + 1 + 1) [.int .i64 0] := by rw [← hW2]; exact he.alloc _
  have R2 : Blk W2 (H + 1 + 1 + 1 + 1) [.int .i64 0, .int .i64 0, .int .i64 0] := by rw [← hW2]; exact hk.r.alloc _
  have G2 : Gr w.heap.size w W2 := by rw [← hW2]; exact hk.g.alloc (by have := hk.n.lt; omega) _ _
  have hlt := he.lt
  rw [hW2, hM]
  rw [hM] at hlt
  clear hW2 hM
  have xT0 := T2.cell 0 _ rfl; have xT1 := T2.cell 1 _ rfl; have xT2 := T2.cell 2 _ rfl
  have xE := E2.cell 0 _ rfl
  have cR0 := R2.cell 0 _ rfl; have cR1 := R2.cell 1 _ rfl; have cR2 := R2.cell 2 _ rfl
  have fR0 := R2.froz 0; have fR1 := R2.froz 1; have fR2 := R2.froz 2
  have n1 : H + 1 + 1 + 1 + 1 ≠ M := by omega
  have n2 : H + 1 + 1 + 1 + 1 ≠ H + 1 + 1 + 1 + 1 + 1 := by omega
  go_region_held3 (fun w' => w'.cell? ⟨M, 0, none⟩ = some (.int .i64 (lerpI a0 b0 num den)) ∧ w'.cell? ⟨M, 1, none⟩ = some (.int .i64 (lerpI a1 b1 num den)) ∧ w'.cell? ⟨M, 2, none⟩ = some (.int .i64 (lerpI a2 b2 num den)) ∧ w'.cell? ⟨H + 1 + 1 + 1 + 1 + 1, 0, none⟩ = some (.int .i64 0))
    (first | with_reducible exact ⟨xT0, xT1, xT2, xE⟩ | with_reducible exact ⟨far3 xT0 n1, far3 xT1 n1, far3 xT2 n1, far3 xE n2⟩ | with_reducible exact ⟨far3d xT0 n1, far3d xT1 n1, far3d xT2 n1, far3d xE n2⟩ | go_keep) (fail)
  go_wp2_with fail
  refine bodyPost_ret (v := .tuple #[.agg #[.int .i64 (lerpI a0 b0 num den), .int .i64 (lerpI a1 b1 num den), .int .i64 (lerpI a2 b2 num den)], .int .i64 0]) (by simp [results, Try.results18, go_sem, cR0, cR1, cR2]) rfl ⟨rfl, ?_⟩
  repeat' (first | exact G2 | refine Gr.drew ?_ | refine Gr.setCell ?_ ?_ _)
  all_goals (show w.heap.size ≤ H + 1 + 1 + 1 + 1; omega)
set_option maxHeartbeats 1000000 in
theorem vlerp_no (a0 a1 a2 b0 b1 b2 num den : Int) (ha0 : R64 a0) (ha1 : R64 a1) (ha2 : R64 a2) (hb0 : R64 b0) (hb1 : R64 b1) (hb2 : R64 b2) (h : fineB num den = false) (w : World) :
    Calls Try.prog 18 #[.agg #[.int .i64 a0, .int .i64 a1, .int .i64 a2], .agg #[.int .i64 b0, .int .i64 b1, .int .i64 b2], .int .i64 num, .int .i64 den] w
      fun e w' => e = .returned (.tuple #[.agg #[.int .i64 (0), .int .i64 (0), .int .i64 (0)], .int .i64 3]) ∧ Gr w.heap.size w w' := by
  obtain ⟨H, hH⟩ : ∃ H, w.heap.size = H := ⟨_, rfl⟩
  go_enter Try.func18, Try.ntmps18
  have hmf : ∀ (fn : Fn) (first cap : Array Value) (w : World), (Instr.makeFunc fn first cap).run Try.prog w = .ok (.func fn first cap) w := fun _ _ _ _ => rfl
  go_wp2_with fail
  obtain ⟨W, hW⟩ : ∃ W, ((((((w.alloc (.cells #[.int .i64 a0, .int .i64 a1, .int .i64 a2] 22)).alloc (.cells #[.int .i64 b0, .int .i64 b1, .int .i64 b2] 22)).alloc (.cells #[.int .i64 num] 2)).alloc (.cells #[.int .i64 den] 2)).alloc (.cells #[.int .i64 0, .int .i64 0, .int .i64 0] 22)).alloc (.cells #[.int .i64 0] 29)) = W := ⟨_, rfl⟩
  have A0 : Blk W (H) [.int .i64 a0, .int .i64 a1, .int .i64 a2] := by rw [← hW]; exact ((((((Blk.new _ _ _ hH.symm)).alloc _).alloc _).alloc _).alloc _).alloc _
  have B0 : Blk W (H + 1) [.int .i64 b0, .int .i64 b1, .int .i64 b2] := by rw [← hW]; exact (((((Blk.new _ _ _ (by simp [hH]))).alloc _).alloc _).alloc _).alloc _
  have N0 : Blk W (H + 1 + 1) [.int .i64 num] := by rw [← hW]; exact ((((Blk.new _ _ _ (by simp [hH]))).alloc _).alloc _).alloc _
  have D0 : Blk W (H + 1 + 1 + 1) [.int .i64 den] := by rw [← hW]; exact (((Blk.new _ _ _ (by simp [hH]))).alloc _).alloc _
  have R0 : Blk W (H + 1 + 1 + 1 + 1) [.int .i64 0, .int .i64 0, .int .i64 0] := by rw [← hW]; exact ((Blk.new _ _ _ (by simp [hH]))).alloc _
  have E0 : Blk W (H + 1 + 1 + 1 + 1 + 1) [.int .i64 0] := by rw [← hW]; exact (Blk.new _ _ _ (by simp [hH]))
  have G0 : Gr w.heap.size w W := by rw [← hW]; repeat' (first | exact Gr.refl _ _ | refine Gr.alloc ?_ ?_ _ _ | (simp; done) | (simp; omega))
  have Z0 : W.heap.size = H + 1 + 1 + 1 + 1 + 1 + 1 := by rw [← hW]; simp [hH]
  rw [hW]
  clear hW
  refine (each_any 35 #[.pointer (some ⟨H + 1 + 1, 0, none⟩), .pointer (some ⟨H + 1 + 1 + 1, 0, none⟩), .pointer (some ⟨H + 1 + 1 + 1 + 1 + 1, 0, none⟩)] (fun x y => 0)
    (fun u => LKeep w H num den u ∧ ∃ ev : Int, Blk u (H + 1 + 1 + 1 + 1 + 1) [.int .i64 ev]) (fun u => LKeep w H num den u ∧ Blk u (H + 1 + 1 + 1 + 1 + 1) [.int .i64 3]) W
    (enters_of Try.func35 (by kernel_rfl) rfl)
    (fun u u' h g => ⟨h.1.gr hH (by omega) g, h.2.elim fun ev k => ⟨ev, k.gr g (by omega)⟩⟩)
    (fun u u' h g => ⟨h.1.gr hH (by omega) g, h.2.gr g (by omega)⟩)
    (fun u h => ⟨h.1, _, h.2⟩)
    (fun x y u hx hy hu => by
      obtain ⟨hk, ev, he⟩ := hu
      refine (lerp1_no x y num den ev hx hy h _ _ _ u hk.n hk.d he).mono ?_
      rintro e u' ⟨rfl, u1, g1, rfl⟩
      have hm : H + 1 + 1 + 1 + 1 + 1 + 1 ≤ u.heap.size := by have := he.lt; omega
      have hk1 := hk.gr hH hm g1
      have he1 := he.gr g1 he.lt
      refine ⟨rfl, ⟨hk1.set hH _, he1.set 0 _ (by simp)⟩, ?_, ?_, ?_⟩
      · simpa using g1.size
      · intro b o hb hlt
        rw [World.cell?_setCell_other _ _ _ _ (by intro h'; have h'' := congrArg Addr.block h'; simp at h''; omega)]
        exact g1.cell b o hlt
      · intro b o
        exact (World.frozen?_setCell _ _ _ _).trans (g1.frozen b o))
    a0 a1 a2 b0 b1 b2 ha0 ha1 ha2 hb0 hb1 hb2 ⟨⟨N0, D0, R0, G0⟩, _, E0⟩).mono ?_
  rintro e w1 ⟨rfl, hk, he⟩
  go_wp2_with fail
  obtain ⟨M, hM⟩ : ∃ M, w1.heap.size = M := ⟨_, rfl⟩
  obtain ⟨W2, hW2⟩ : ∃ W, w1.alloc (.cells #[.int .i64 (0), .int .i64 (0), .int .i64 (0)] 22) = W := ⟨_, rfl⟩
  have T2 : Blk W2 M [.int .i64 (0), .int .i64 (0), .int .i64 (0)] := by rw [← hW2]; exact Blk.new _ _ _ hM.symm
  have E2 : Blk W2 (H + 1 + 1 + 1 + 1 + 1) [.int .i64 3] := by rw [← hW2]; exact he.alloc _
  have R2 : Blk W2 (H + 1 + 1 + 1 + 1) [.int .i64 0, .int .i64 0, .int .i64 0] := by rw [← hW2]; exact hk.r.alloc _
  have G2 : Gr w.heap.size w W2 := by rw [← hW2]; exact hk.g.alloc (by have := hk.n.lt; omega) _ _
  have hlt := he.lt
  rw [hW2, hM]
  rw [hM] at hlt
  clear hW2 hM
  have xT0 := T2.cell 0 _ rfl; have xT1 := T2.cell 1 _ rfl; have xT2 := T2.cell 2 _ rfl
  have xE := E2.cell 0 _ rfl
  have cR0 := R2.cell 0 _ rfl; have cR1 := R2.cell 1 _ rfl; have cR2 := R2.cell 2 _ rfl
  have fR0 := R2.froz 0; have fR1 := R2.froz 1; have fR2 := R2.froz 2
  have n1 : H + 1 + 1 + 1 + 1 ≠ M := by omega
  have n2 : H + 1 + 1 + 1 + 1 ≠ H + 1 + 1 + 1 + 1 + 1 := by omega
  go_region_held3 (fun w' => w'.cell? ⟨M, 0, none⟩ = some (.int .i64 (0)) ∧ w'.cell? ⟨M, 1, none⟩ = some (.int .i64 (0)) ∧ w'.cell? ⟨M, 2, none⟩ = some (.int .i64 (0)) ∧ w'.cell? ⟨H + 1 + 1 + 1 + 1 + 1, 0, none⟩ = some (.int .i64 3))
    (first | with_reducible exact ⟨xT0, xT1, xT2, xE⟩ | with_reducible exact ⟨far3 xT0 n1, far3 xT1 n1, far3 xT2 n1, far3 xE n2⟩ | with_reducible exact ⟨far3d xT0 n1, far3d xT1 n1, far3d xT2 n1, far3d xE n2⟩ | go_keep) (fail)
  go_wp2_with fail
  refine bodyPost_ret (v := .tuple #[.agg #[.int .i64 (0), .int .i64 (0), .int .i64 (0)], .int .i64 3]) (by simp [results, Try.results18, go_sem, cR0, cR1, cR2]) rfl ⟨rfl, ?_⟩
  repeat' (first | exact G2 | refine Gr.drew ?_ | refine Gr.setCell ?_ ?_ _)
  all_goals (show w.heap.size ≤ H + 1 + 1 + 1 + 1; omega)
end Go.Proofs.Ytlfpgpfjdobpeaa
