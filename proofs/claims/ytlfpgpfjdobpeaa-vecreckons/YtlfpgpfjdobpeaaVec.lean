/-
  Layer 2 (vec), walked: Add, Sub, Scale, Go.
-/
import Derived.Test.YtlfpgpfjdobpeaaEach
import Derived.Test.YtlfpgpfjdobpeaaAlive
namespace Go.Proofs.Ytlfpgpfjdobpeaa
open Go.RowKit

theorem Gr.step {N : Nat} {w u u' : World} (h : Gr w.heap.size w u) (hN : w.heap.size ≤ N) (k : Gr N u u') : Gr w.heap.size w u' := h.trans (k.mono hN)

theorem each_pure (K : Nat) (f : Int → Int → Int) (w : World)
    (hK : ∀ args u, (callFunc K args).run Try.prog u = .ok (.enter K args) u)
    (hf : ∀ x y u, R64 x → R64 y → Calls Try.prog K #[.int .i64 x, .int .i64 y] u fun e u' => e = .returned (.int .i64 (f x y)) ∧ Gr u.heap.size u u')
    (a0 a1 a2 b0 b1 b2 : Int) (ha0 : R64 a0) (ha1 : R64 a1) (ha2 : R64 a2) (hb0 : R64 b0) (hb1 : R64 b1) (hb2 : R64 b2) :
    Calls Try.prog 28 #[.agg #[.int .i64 a0, .int .i64 a1, .int .i64 a2], .agg #[.int .i64 b0, .int .i64 b1, .int .i64 b2], .func (.func K) #[] #[]] w
      fun e w' => e = .returned (.agg #[.int .i64 (f a0 b0), .int .i64 (f a1 b1), .int .i64 (f a2 b2)]) ∧ Gr w.heap.size w w' :=
  each_any K #[] f (fun u => Gr w.heap.size w u) (fun u => Gr w.heap.size w u) w hK (fun u u' h k => h.trans k) (fun u u' h k => h.trans k) (fun _ h => h)
    (fun x y u hx hy hu => by
      refine (hf x y u hx hy).mono ?_
      rintro e u' ⟨rfl, g⟩
      exact ⟨rfl, hu.then g, g.up⟩)
    a0 a1 a2 b0 b1 b2 ha0 ha1 ha2 hb0 hb1 hb2 (Gr.refl _ _)

theorem vadd_any (a0 a1 a2 b0 b1 b2 : Int) (ha0 : R64 a0) (ha1 : R64 a1) (ha2 : R64 a2) (hb0 : R64 b0) (hb1 : R64 b1) (hb2 : R64 b2) (w : World) :
    Calls Try.prog 10 #[.agg #[.int .i64 a0, .int .i64 a1, .int .i64 a2], .agg #[.int .i64 b0, .int .i64 b1, .int .i64 b2]] w
      fun e w' => e = .returned (.agg #[.int .i64 (sat (a0 + b0)), .int .i64 (sat (a1 + b1)), .int .i64 (sat (a2 + b2))]) ∧ Gr w.heap.size w w' := by
  go_enter Try.func10, Try.ntmps10
  go_wp2_with fail
  refine (each_pure 29 (fun x y => sat (x + y)) _ (enters_of Try.func29 (by kernel_rfl) rfl) (fun x y u hx hy => add_any x y hx hy u) a0 a1 a2 b0 b1 b2 ha0 ha1 ha2 hb0 hb1 hb2).mono ?_
  rintro e w1 ⟨rfl, g1⟩
  have z1 := g1.size
  simp at z1
  have c1 := g1.cell
  have f1 := g1.frozen
  go_wp2_with fail
  refine bodyPost_ret (v := .agg #[.int .i64 (sat (a0 + b0)), .int .i64 (sat (a1 + b1)), .int .i64 (sat (a2 + b2))]) (by simp [results, Try.results10, go_sem, c1]) rfl ⟨rfl, ?_⟩
  repeat' (first | exact Gr.refl _ _ | refine Gr.setCell ?_ ?_ _ | refine Gr.alloc ?_ ?_ _ _ | refine Gr.then ?_ g1)
  all_goals first | (simp; done) | (simp; omega)
theorem vsub_any (a0 a1 a2 b0 b1 b2 : Int) (ha0 : R64 a0) (ha1 : R64 a1) (ha2 : R64 a2) (hb0 : R64 b0) (hb1 : R64 b1) (hb2 : R64 b2) (w : World) :
    Calls Try.prog 12 #[.agg #[.int .i64 a0, .int .i64 a1, .int .i64 a2], .agg #[.int .i64 b0, .int .i64 b1, .int .i64 b2]] w
      fun e w' => e = .returned (.agg #[.int .i64 (sat (a0 - b0)), .int .i64 (sat (a1 - b1)), .int .i64 (sat (a2 - b2))]) ∧ Gr w.heap.size w w' := by
  go_enter Try.func12, Try.ntmps12
  go_wp2_with fail
  refine (each_pure 31 (fun x y => sat (x - y)) _ (enters_of Try.func31 (by kernel_rfl) rfl) (fun x y u hx hy => sub_any x y hx hy u) a0 a1 a2 b0 b1 b2 ha0 ha1 ha2 hb0 hb1 hb2).mono ?_
  rintro e w1 ⟨rfl, g1⟩
  have z1 := g1.size
  simp at z1
  have c1 := g1.cell
  have f1 := g1.frozen
  go_wp2_with fail
  refine bodyPost_ret (v := .agg #[.int .i64 (sat (a0 - b0)), .int .i64 (sat (a1 - b1)), .int .i64 (sat (a2 - b2))]) (by simp [results, Try.results12, go_sem, c1]) rfl ⟨rfl, ?_⟩
  repeat' (first | exact Gr.refl _ _ | refine Gr.setCell ?_ ?_ _ | refine Gr.alloc ?_ ?_ _ _ | refine Gr.then ?_ g1)
  all_goals first | (simp; done) | (simp; omega)
theorem vscale_any (a0 a1 a2 k : Int) (ha0 : R64 a0) (ha1 : R64 a1) (ha2 : R64 a2) (hk : R64 k) (w : World) :
    Calls Try.prog 14 #[.agg #[.int .i64 a0, .int .i64 a1, .int .i64 a2], .int .i64 k] w
      fun e w' => e = .returned (.agg #[.int .i64 (sat (a0 * k / 65536)), .int .i64 (sat (a1 * k / 65536)), .int .i64 (sat (a2 * k / 65536))]) ∧ Gr w.heap.size w w' := by
  go_enter Try.func14, Try.ntmps14
  go_wp2_with fail
  refine (each_pure 33 (fun x y => sat (x * y / 65536)) _ (enters_of Try.func33 (by kernel_rfl) rfl) (fun x y u hx hy => mul_any x y hx hy u) a0 a1 a2 k k k ha0 ha1 ha2 hk hk hk).mono ?_
  rintro e w1 ⟨rfl, g1⟩
  have z1 := g1.size
  simp at z1
  have c1 := g1.cell
  have f1 := g1.frozen
  go_wp2_with fail
  refine bodyPost_ret (v := .agg #[.int .i64 (sat (a0 * k / 65536)), .int .i64 (sat (a1 * k / 65536)), .int .i64 (sat (a2 * k / 65536))]) (by simp [results, Try.results14, go_sem, c1]) rfl ⟨rfl, ?_⟩
  repeat' (first | exact Gr.refl _ _ | refine Gr.setCell ?_ ?_ _ | refine Gr.alloc ?_ ?_ _ _ | refine Gr.then ?_ g1)
  all_goals first | (simp; done) | (simp; omega)
end Go.Proofs.Ytlfpgpfjdobpeaa
