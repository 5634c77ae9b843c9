/-
  Blocks of memory that a walk knows whole (no program in sight), and what a call leaves alone of them.
-/
import Derived.Test.YtmclcoaicngodaaBase
namespace Go.Proofs.Ytmclcoaicngodaa
open Go.RowKit

/-- What a call leaves alone: all cells of old blocks from B on; the marks; no block goes. -/
structure Up (B : Nat) (w w' : World) : Prop where
  size : w.heap.size ≤ w'.heap.size
  cell : ∀ b o, B ≤ b → b < w.heap.size → w'.cell? ⟨b, o, none⟩ = w.cell? ⟨b, o, none⟩
  froz : ∀ b o, w'.frozen? ⟨b, o, none⟩ = w.frozen? ⟨b, o, none⟩
theorem Gr.up {B : Nat} {w w' : World} (h : Gr w.heap.size w w') : Up B w w' := ⟨h.size, fun b o _ hb => h.cell b o hb, h.frozen⟩
theorem Up.mono {B C : Nat} {w w' : World} (h : Up B w w') (hB : B ≤ C) : Up C w w' := ⟨h.size, fun b o h1 h2 => h.cell b o (Nat.le_trans hB h1) h2, h.froz⟩

/-- Block b holds the cells cs, and may be written. -/
structure Blk (w : World) (b : Nat) (cs : List Value) : Prop where
  lt : b < w.heap.size
  all : ∀ o, o < cs.length → w.cell? ⟨b, o, none⟩ = cs[o]?
  froz : ∀ o, w.frozen? ⟨b, o, none⟩ = false
theorem Blk.cell {w : World} {b : Nat} {cs : List Value} (h : Blk w b cs) (o : Nat) (v : Value) (hv : cs[o]? = some v) : w.cell? ⟨b, o, none⟩ = some v := by
  have : o < cs.length := by
    rw [List.getElem?_eq_some_iff] at hv; exact hv.1
  rw [h.all o this, hv]
theorem Blk.new (w : World) (c : Array Value) (t : TypeId) {b : Nat} (hb : b = w.heap.size) : Blk (w.alloc (.cells c t)) b c.toList := by
  subst hb
  refine ⟨by simp, fun o _ => ?_, fun o => by simp⟩
  simp
theorem Blk.alloc {w : World} {b : Nat} {cs : List Value} (h : Blk w b cs) (o : Obj) : Blk (w.alloc o) b cs :=
  ⟨by have := h.lt; simp; omega, fun i hi => (World.cell?_alloc_past o b i h.lt).trans (h.all i hi), fun i => (World.frozen?_alloc_past o b i h.lt).trans (h.froz i)⟩
theorem Blk.drew {w : World} {b : Nat} {cs : List Value} (h : Blk w b cs) : Blk w.drew b cs := ⟨h.lt, h.all, h.froz⟩
theorem Blk.set {w : World} {b : Nat} {cs : List Value} (h : Blk w b cs) (o : Nat) (v : Value) (ho : o < cs.length) : Blk (w.setCell ⟨b, o, none⟩ v) b (cs.set o v) := by
  refine ⟨by simpa using h.lt, fun i hi => ?_, fun i => (World.frozen?_setCell _ _ _ _).trans (h.froz i)⟩
  rw [List.length_set] at hi
  by_cases e : o = i
  · subst e
    rw [World.cell?_setCell_same _ _ _ (u := cs[o]) (by rw [h.all o ho]; exact List.getElem?_eq_getElem ho)]
    simp [ho]
  · rw [World.cell?_setCell_other _ _ _ _ (by intro h'; exact e (by injection h'))]
    rw [h.all i hi, List.getElem?_set_ne e]
theorem Blk.other {w : World} {b : Nat} {cs : List Value} (h : Blk w b cs) {p : Addr} (hp : p.block ≠ b) (v : Value) : Blk (w.setCell p v) b cs := by
  refine ⟨by simpa using h.lt, fun i hi => ?_, fun i => (World.frozen?_setCell _ _ _ _).trans (h.froz i)⟩
  rw [World.cell?_setCell_other _ _ _ _ (by intro h'; exact hp (by rw [h']))]
  exact h.all i hi
theorem Blk.up {B : Nat} {w w' : World} {b : Nat} {cs : List Value} (h : Blk w b cs) (hu : Up B w w') (hB : B ≤ b) : Blk w' b cs :=
  ⟨Nat.lt_of_lt_of_le h.lt hu.size, fun i hi => (hu.cell b i hB h.lt).trans (h.all i hi), fun i => (hu.froz b i).trans (h.froz i)⟩
theorem Blk.gr {B : Nat} {w w' : World} {b : Nat} {cs : List Value} (h : Blk w b cs) (hu : Gr B w w') (hB : b < B) : Blk w' b cs :=
  ⟨Nat.lt_of_lt_of_le h.lt hu.size, fun i hi => (hu.cell b i hB).trans (h.all i hi), fun i => (hu.frozen b i).trans (h.froz i)⟩
/-- A cell behind stores into other blocks. -/
theorem far1 {w : World} {b o : Nat} {v x : Value} {p : Addr} (h : w.cell? ⟨b, o, none⟩ = some v) (hp : p.block ≠ b) : (w.setCell p x).cell? ⟨b, o, none⟩ = some v := by
  rw [World.cell?_setCell_other _ _ _ _ (by intro h'; exact hp (by rw [h']))]; exact h
theorem far1c {w : World} {b o c i : Nat} {v x : Value} (h : w.cell? ⟨b, o, none⟩ = some v) (hp : c ≠ b) : (w.setCell ⟨c, i, none⟩ x).cell? ⟨b, o, none⟩ = some v := far1 h hp
theorem far3 {w : World} {b o c : Nat} {i j k : Nat} {v x y z : Value} (h : w.cell? ⟨b, o, none⟩ = some v) (hp : c ≠ b) :
    (((w.setCell ⟨c, i, none⟩ x).setCell ⟨c, j, none⟩ y).setCell ⟨c, k, none⟩ z).cell? ⟨b, o, none⟩ = some v := far1 (far1 (far1 h hp) hp) hp
theorem far3d {w : World} {b o c : Nat} {i j k : Nat} {v x y z : Value} (h : w.cell? ⟨b, o, none⟩ = some v) (hp : c ≠ b) :
    (((w.setCell ⟨c, i, none⟩ x).setCell ⟨c, j, none⟩ y).setCell ⟨c, k, none⟩ z).drew.cell? ⟨b, o, none⟩ = some v := far3 h hp
end Go.Proofs.Ytmclcoaicngodaa
