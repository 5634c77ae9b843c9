/-
  Layer 11 (ring): rings in memory, and what their calls leave alone (no function of the program in sight).
-/
import Derived.Test.YthkffclligcdnaaRg4
namespace Go.Proofs.Ythkffclligcdnaa
open Go.RowKit
set_option linter.unusedVariables false
set_option maxRecDepth 20000

theorem Blk.low {w w' : World} {b B : Nat} {cs : List Value} (h : Blk w b cs) (k : Below B w w') (hB : b < B) : Blk w' b cs :=
  ⟨Nat.lt_of_lt_of_le h.lt k.size, fun o ho => (k.cell (p := ⟨b, o, none⟩) hB).trans (h.all o ho), fun o => (k.frozen (p := ⟨b, o, none⟩) hB).trans (h.froz o)⟩
/-- A box that was just made. -/
theorem boxA {w W : World} {cs : Array Value} {t : TypeId} (h : w.alloc (.cells cs t) = W) : Blk W w.heap.size cs.toList ∧ Below w.heap.size w W ∧ W.heap.size = w.heap.size + 1 ∧ W.heap[w.heap.size]? = some (.cells cs t (0, 0)) := by
  subst h
  exact ⟨Blk.new w _ _ rfl, (Below.refl _ _).alloc (Nat.le_refl _) _, by simp, heap_alloc_new w _⟩
theorem grown_set (w : World) (R o : Nat) (u : Value) : w.grownBy (w.setCell ⟨R, o, none⟩ u) (some R) :=
  ⟨rfl, rfl, rfl, by simp, fun k _ hne => heap_setCell_other w ⟨R, o, none⟩ k u (fun e => hne (by rw [e]))⟩
theorem Blk.grwn {w w' : World} {r : Option Nat} {b : Nat} {cs : List Value} (h : Blk w b cs) (hg : w.grownBy w' r) (hne : some b ≠ r) : Blk w' b cs := by
  have e := hg.block b h.lt hne
  exact ⟨Nat.lt_of_lt_of_le h.lt hg.size, fun o ho => (World.cell?_of_block (w := w) (a := ⟨b, o, none⟩) e).trans (h.all o ho), fun o => (World.frozen?_of_block (w := w) (a := ⟨b, o, none⟩) e).trans (h.froz o)⟩
/-- The ring at block R stands so; its row is v. -/
structure RngV (e : TypeId) (w : World) (B R : Nat) (v : Value) (s : Rs) : Prop where
  blk : Blk w R [.int .i64 (s.M : Nat), v, .int .i64 s.F, .bool s.G]
  own : OwnP e w B v s.L
  ok : s.ok
  ones : Ones s.L
  ne : some R ≠ v.ownBlock
  le : B ≤ R
/-- What a call of a ring leaves alone: all blocks but the ring's own, and its row's. -/
structure Chg (B R : Nat) (v v' : Value) (w w' : World) : Prop where
  below : Below B w w'
  block : ∀ k, k < w.heap.size → k ≠ R → some k ≠ v.ownBlock → w'.heap[k]? = w.heap[k]?
  own : v'.ownBlock = v.ownBlock ∨ ∃ g, v'.ownBlock = some g ∧ w.heap.size ≤ g
theorem Chg.of_below {B R : Nat} {v : Value} {w w' : World} (h : Below w.heap.size w w') (hB : B ≤ w.heap.size) : Chg B R v v w w' :=
  ⟨h.mono hB, fun k hk _ _ => h.block k hk, Or.inl rfl⟩
theorem Chg.of_grow {B R : Nat} {v v' : Value} {w w' : World} (h : Grow B v w v' w') : Chg B R v v' w w' :=
  ⟨h.below, fun k hk _ hv => h.by_.block k hk hv, h.blk.imp id fun e => ⟨_, e, Nat.le_refl _⟩⟩
theorem Chg.of_grown {B R : Nat} {v v' : Value} {w w' : World} (h : w.grownBy w' v.ownBlock) (hv : v'.ownBlock = v.ownBlock) (hB : B ≤ w.heap.size) (hb : ∀ k, v.ownBlock = some k → B ≤ k) : Chg B R v v' w w' :=
  ⟨(Below.refl B w).grown h hB hb, fun k hk _ hv => h.block k hk hv, Or.inl hv⟩
theorem Chg.set {B R o : Nat} {v u : Value} {w : World} (hB : B ≤ R) : Chg B R v v w (w.setCell ⟨R, o, none⟩ u) :=
  ⟨(Below.refl B w).setCell hB u, fun k hk hne _ => heap_setCell_other w ⟨R, o, none⟩ k u (fun e => hne e), Or.inl rfl⟩
theorem Chg.trans {B R : Nat} {v v1 v2 : Value} {w w1 w2 : World} (h : Chg B R v v1 w w1) (k : Chg B R v1 v2 w1 w2) : Chg B R v v2 w w2 := by
  refine ⟨h.below.trans k.below, fun j hj hR hv => ?_, ?_⟩
  · refine (k.block j (Nat.lt_of_lt_of_le hj h.below.size) hR ?_).trans (h.block j hj hR hv)
    rcases h.own with e | ⟨g, e, hg⟩
    · rw [e]; exact hv
    · rw [e]; intro h'; injection h' with h'; omega
  · rcases k.own with e | ⟨g, e, hg⟩
    · rw [e]; exact h.own
    · exact Or.inr ⟨g, e, Nat.le_trans h.below.size hg⟩
theorem Chg.drew {B R : Nat} {v v' : Value} {w w' : World} (h : Chg B R v v' w w') : Chg B R v v' w w'.drew := ⟨h.below.drew, h.block, h.own⟩
theorem Chg.drewN {B R : Nat} {v v' : Value} {w w' : World} (h : Chg B R v v' w w') (n : Nat) : Chg B R v v' w (w'.drewN n) := ⟨below_drewN h.below n, h.block, h.own⟩
theorem Chg.mono {B B' R : Nat} {v v' : Value} {w w' : World} (h : Chg B R v v' w w') (hB : B' ≤ B) : Chg B' R v v' w w' := ⟨h.below.mono hB, h.block, h.own⟩
/-- A block that isn't the ring's. -/
theorem Chg.off {B R : Nat} {v v' : Value} {w w' : World} (h : Chg B R v v' w w') {b : Nat} (hb : b < w.heap.size) (hv : some b ≠ v.ownBlock) : some b ≠ v'.ownBlock := by
  rcases h.own with e | ⟨g, e, hg⟩
  · rw [e]; exact hv
  · rw [e]; intro h'; injection h' with h'; omega
theorem Blk.chg {B R : Nat} {v v' : Value} {w w' : World} {b : Nat} {cs : List Value} (hb : Blk w b cs) (h : Chg B R v v' w w') (hR : b ≠ R) (hv : some b ≠ v.ownBlock) : Blk w' b cs ∧ some b ≠ v'.ownBlock := by
  have e := h.block b hb.lt hR hv
  exact ⟨⟨Nat.lt_of_lt_of_le hb.lt h.below.size, fun o ho => (World.cell?_of_block (w := w) (a := ⟨b, o, none⟩) e).trans (hb.all o ho), fun o => (World.frozen?_of_block (w := w) (a := ⟨b, o, none⟩) e).trans (hb.froz o)⟩, h.off hb.lt hv⟩
theorem OwnP.chg {e : TypeId} {B C R : Nat} {v v' u : Value} {L : List Pr} {w w' : World} (hu : OwnP e w C u L) (h : Chg B R v v' w w') (hR : some R ≠ u.ownBlock) (hv : u.ownBlock = none ∨ u.ownBlock ≠ v.ownBlock) : OwnP e w' C u L := by
  refine ⟨hu.1, ?_⟩
  rcases hu.2 with hn | ⟨g, cap, cur, hv', hB, hg, rest⟩
  · exact Or.inl hn
  · have hgl : g < w.heap.size := (Array.getElem?_eq_some_iff.1 hg).1
    subst hv'
    refine Or.inr ⟨g, cap, cur, rfl, hB, (h.block g hgl (fun e => hR (by rw [← e]; rfl)) (fun e => ?_)).trans hg, rest⟩
    rcases hv with h' | h'
    · cases h'
    · exact h' (by rw [← e]; rfl)
/-- Two rings lie in blocks of their own. -/
structure Sep (R : Nat) (v : Value) (S : Nat) (u : Value) : Prop where
  blks : S ≠ R
  left : some S ≠ v.ownBlock
  right : some R ≠ u.ownBlock
  rows : u.ownBlock = none ∨ u.ownBlock ≠ v.ownBlock
theorem Sep.symm {R S : Nat} {u v : Value} (h : Sep R v S u) : Sep S u R v := by
  refine ⟨h.blks.symm, h.right, h.left, ?_⟩
  cases hv : v.ownBlock with
  | none => exact Or.inl rfl
  | some g =>
    right
    rcases h.rows with e | e
    · rw [e]; simp
    · rw [hv] at e; exact fun h => e h.symm
theorem RngV.chg {e' : TypeId} {B C R S : Nat} {v v' u : Value} {t : Rs} {w w' : World} (hu : RngV e' w C S u t) (h : Chg B R v v' w w') (hs : Sep R v S u) : RngV e' w' C S u t ∧ Sep R v' S u := by
  have hb := hu.blk.chg h hs.blks hs.left
  refine ⟨⟨hb.1, hu.own.chg h hs.right hs.rows, hu.ok, hu.ones, hu.ne, hu.le⟩, hs.blks, hb.2, hs.right, ?_⟩
  cases hq : u.ownBlock with
  | none => exact Or.inl rfl
  | some g =>
    right
    have := (hu.own.lt g hq).2
    refine h.off (b := g) this ?_
    rcases hs.rows with e | e
    · rw [hq] at e; cases e
    · rw [hq] at e; exact e
theorem RngV.below {e : TypeId} {B R : Nat} {v : Value} {s : Rs} {w w' : World} (h : RngV e w B R v s) (hb : Below w.heap.size w w') : RngV e w' B R v s :=
  ⟨h.blk.low hb h.blk.lt, h.own.below hb, h.ok, h.ones, h.ne, h.le⟩
theorem RngV.drew {e : TypeId} {B R : Nat} {v : Value} {s : Rs} {w : World} (h : RngV e w B R v s) : RngV e w.drew B R v s := ⟨h.blk.drew, h.own, h.ok, h.ones, h.ne, h.le⟩
theorem RngV.drewN {e : TypeId} {B R : Nat} {v : Value} {s : Rs} {w : World} (h : RngV e w B R v s) : ∀ n, RngV e (w.drewN n) B R v s
  | n => ⟨⟨h.blk.lt, h.blk.all, h.blk.froz⟩, h.own, h.ok, h.ones, h.ne, h.le⟩
theorem RngV.mono {e : TypeId} {B B' R : Nat} {v : Value} {s : Rs} {w : World} (h : RngV e w B R v s) (hB : B' ≤ B) : RngV e w B' R v s := by
  refine ⟨h.blk, ⟨h.own.1, ?_⟩, h.ok, h.ones, h.ne, Nat.le_trans hB h.le⟩
  rcases h.own.2 with hn | ⟨g, cap, cur, hv, hb, rest⟩
  · exact Or.inl hn
  · exact Or.inr ⟨g, cap, cur, hv, Nat.le_trans hB hb, rest⟩
/-- How many places below the length bear no greater number. -/
theorem count_untl : ∀ (L : List Pr) (k : Int), (List.range L.length).countP (fun i => !decide (k < keyAt L i)) = untl L k := by
  intro L k
  have e : L = (List.range L.length).map (fun i => L.getD i noPr) := by
    apply List.ext_getElem
    · simp
    · intro i h1 h2; simp [List.getD, h1]
  unfold untl
  conv => rhs; rw [e]
  rw [List.countP_map]
  refine List.countP_congr fun i _ => ?_
  simp [keyAt]
end Go.Proofs.Ythkffclligcdnaa
