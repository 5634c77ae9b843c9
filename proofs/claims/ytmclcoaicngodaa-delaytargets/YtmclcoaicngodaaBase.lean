/-
  The worlds of this seat: what was there stays as it was; new blocks may lie behind it.
-/
import Derived.Test.YtmclcoaicngodaaRows
import Derived.Test.YtmclcoaicngodaaMath
import Derived.WalkKit
import Derived.ProofKit
import Derived.WalkSpells
import Derived.WalkLawsBesides
import Derived.WalkSmall
import Derived.RowKit3
import Derived.BigQuiet
import Derived.Deep.QuietTactic
import Derived.Deep.RegionHeld3
import Derived.Outline
import Derived.Shelf.Spec.BitsCarry
namespace Go.Proofs.Ytmclcoaicngodaa
open Go.RowKit

theorem ret_int {k : IntKind} {a b : Int} (h : a = b) : Ending.returned (.int k a) = .returned (.int k b) := by rw [h]
theorem ret_two {k l : IntKind} {a b c d : Int} (h : a = c) (h' : b = d) : Ending.returned (.tuple #[.int k a, .int l b]) = .returned (.tuple #[.int k c, .int l d]) := by rw [h, h']
theorem ret_bool {a b : Bool} (h : a = b) : Ending.returned (.bool a) = .returned (.bool b) := by rw [h]

structure Gr (B : Nat) (w w' : World) : Prop where
  below : Below B w w'
  froz : ∀ a, w'.frozen? a = w.frozen? a

theorem Gr.refl (B : Nat) (w : World) : Gr B w w := ⟨Below.refl _ _, fun _ => rfl⟩
theorem Gr.trans {B : Nat} {a b c : World} (h : Gr B a b) (k : Gr B b c) : Gr B a c := ⟨h.below.trans k.below, fun x => (k.froz x).trans (h.froz x)⟩
theorem Gr.mono {B B' : Nat} {w w' : World} (h : Gr B w w') (hB : B' ≤ B) : Gr B' w w' := ⟨h.below.mono hB, h.froz⟩
theorem Gr.then {w W w' : World} (h1 : Gr w.heap.size w W) (h2 : Gr W.heap.size W w') : Gr w.heap.size w w' := h1.trans (h2.mono h1.below.size)
theorem Gr.drew {B : Nat} {a w : World} (h : Gr B a w) : Gr B a w.drew := ⟨h.below.drew, h.froz⟩
theorem Gr.drewN {B : Nat} {a w : World} (h : Gr B a w) (n : Nat) : Gr B a (w.drewN n) := ⟨below_drewN h.below n, h.froz⟩
theorem Gr.alloc {B : Nat} {a w : World} (h : Gr B a w) (hB : B ≤ w.heap.size) (c : Array Value) (t : TypeId) : Gr B a (w.alloc (.cells c t)) :=
  ⟨h.below.alloc hB _, fun x => (frozen?_alloc_cells _ _ _ x).trans (h.froz x)⟩
theorem Gr.setCell {B : Nat} {a w : World} (h : Gr B a w) {p : Addr} (hp : B ≤ p.block) (u : Value) : Gr B a (w.setCell p u) :=
  ⟨h.below.setCell hp u, fun x => (World.frozen?_setCell _ _ _ _).trans (h.froz x)⟩
theorem Gr.size {B : Nat} {w w' : World} (h : Gr B w w') : w.heap.size ≤ w'.heap.size := h.below.size
theorem Gr.cell {B : Nat} {w w' : World} (h : Gr B w w') : ∀ b o, b < B → w'.cell? ⟨b, o, none⟩ = w.cell? ⟨b, o, none⟩ := fun b o hb => h.below.cell (p := ⟨b, o, none⟩) hb
theorem Gr.frozen {B : Nat} {w w' : World} (h : Gr B w w') : ∀ b o, w'.frozen? ⟨b, o, none⟩ = w.frozen? ⟨b, o, none⟩ := fun b o => h.froz ⟨b, o, none⟩
end Go.Proofs.Ytmclcoaicngodaa
