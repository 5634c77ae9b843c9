/-
  Texts Stp, St13, Fr12, St15, St16, St17, St18, St19, St20, St21, St22 in one.
-/
import Derived.Shelf.Abstract
import Derived.SizedLaws
import Derived.Deep.Slices
import Derived.Deep.LoopGhost
import Derived.Deep.Grids
import Derived.Test.YtlpdhglibgnkoaaGreatP33
namespace Go.Proofs.YtlpdhglibgnkoaaGreat
open Go.RowKit
set_option linter.unusedVariables false
set_option maxRecDepth 20000

end Go.Proofs.YtlpdhglibgnkoaaGreat

namespace Go.Proofs.YtlpdhglibgnkoaaGreat
open Go.RowKit
set_option linter.unusedVariables false
set_option maxRecDepth 20000

theorem StoV.by_ {w w' : World} {B S R g : Nat} {v : Value} {rs : Rs} {s : Sto} (h : StoV w B S R v rs s) (hg : w.grownBy w' (some g)) (hgB : g < B) : StoV w' B S R v rs s := by
  have hS := h.le
  have hR := h.rng.le
  refine ⟨h.blk.by_ hg (fun e => by injection e with e; omega), ⟨h.rng.blk.by_ hg (fun e => by injection e with e; omega), h.rng.own.kept hg ?_, h.rng.ok, h.rng.ones, h.rng.ne, h.rng.le⟩, h.most, h.kept.mono ?_, h.ne, h.nev, h.le, h.num⟩
  · cases hq : v.ownBlock with
    | none => exact Or.inl rfl
    | some q => exact Or.inr (fun e => by have := (h.rng.own.lt q hq).1; injection e with e; omega)
  · rintro p s ⟨ao, n, c, rfl, h1, h2⟩
    refine ⟨ao, n, c, rfl, World.ownsRow.kept h1 hg ?_, h2⟩
    cases hq : (Value.slice ao n c).ownBlock with
    | none => exact Or.inl rfl
    | some q => exact Or.inr (fun e => by have := (h1.lt q hq).1; injection e with e; omega)
/-- Of rows that are written: what is at some cells. -/
def CellW (w : World) (g k : Nat) (n : Nat) (P : Value → Prop) : Prop := ∀ i, i < n → ∃ x, P x ∧ w.cell? ⟨g, i * 9 + k, none⟩ = some x ∧ w.frozen? ⟨g, i * 9 + k, none⟩ = false
theorem CellW.below {w w' : World} {g k n : Nat} {P : Value → Prop} (h : CellW w g k n P) (hb : Below w.heap.size w w') (hg : g < w.heap.size) : CellW w' g k n P := fun i hi => by
  obtain ⟨x, h1, h2, h3⟩ := h i hi
  exact ⟨x, h1, (hb.cell (p := ⟨g, i * 9 + k, none⟩) hg).trans h2, (hb.frozen (p := ⟨g, i * 9 + k, none⟩) hg).trans h3⟩
end Go.Proofs.YtlpdhglibgnkoaaGreat

namespace Go.Proofs.YtlpdhglibgnkoaaGreat
open Go.ChangeShapes Go.WideShapes Go.ChangeAt Go.RowKit
variable {H : Type} {enc : TypeId × Value → H}

/-- A value that reads as these rows of bytes, by index. -/
def RdBB (w : World) (v : Value) (n : Nat) (L : Nat → List Int) : Prop :=
  ∃ ao cap, v = .slice ao n cap ∧ n ≤ cap ∧ cap ≤ 9223372036854775807 ∧ (n = 0 ∨ ∃ b o, ao = some ⟨b, o, none⟩ ∧ ∀ i, i < n → ∃ u, w.cell? ⟨b, o + i, none⟩ = some u ∧ Rd w u (L i))
theorem weights_all {P : Program} {e : TypeId} {d : DataW H} {n : Nat} (hn : n ∈ d.weights P e) : ∀ {l : List (DataW H)}, d ∈ l → n ∈ DataW.weightsAll P e l
  | [], h => by cases h
  | x :: l, h => by
    simp only [DataW.weightsAll, List.mem_append]
    rcases List.mem_cons.1 h with rfl | h
    · exact Or.inl hn
    · exact Or.inr (weights_all hn h)
theorem cells_bs : Tryz.prog.cellsOf 32 = 1 := by kernel_rfl
theorem bytes8' : Tryz.prog.bytesOf 5 = 1 := by kernel_rfl
/-- A row of bytes, off its one cell. -/
theorem open_row {W : World} {fuel : Nat} {cs : List Value} {d : DataW H} {p : List MemPlace} (h : DataW.trod enc Tryz.prog W 0 (fun _ => true) true fuel 32 cs = some (d, p)) :
    ∃ (u : Value) (l : List Int), cs = [u] ∧ Bytes l ∧ Rd W u l ∧ ((∀ k ∈ d.weights Tryz.prog 32, k ≤ reachBytes) → l.length ≤ 140737488351232) := by
  rcases open_ints Tryz.underlying32 Tryz.underlying5 (by kernel_rfl) h with ⟨hcs, hx⟩ | ⟨a, len, cap, zs, hcs, _, hl, hm, hz, hx, hcell, hwz⟩
  · exact ⟨_, [], hcs, (fun n hn => by simp at hn), ⟨none, 0, rfl, Nat.le_refl _, by omega, fun _ => rfl, Or.inl rfl⟩, fun _ => by simp⟩
  · simp only [if_true] at hz
    have hlen : (zs.take len).length = len := List.length_take_of_le (by omega)
    refine ⟨_, zs.take len, hcs, fun n hn => wf_u8 (hwz n (List.mem_of_mem_take hn)), ⟨some a, cap, by rw [hlen], by omega, hm, fun h => by simp at h, ?_⟩, fun hw => ?_⟩
    · by_cases h0 : len = 0
      · left; rw [h0]; rfl
      · right
        obtain ⟨ab, ao, spot⟩ := a
        have hspot : spot = none := by simpa [Addr.add] using World.cell?_spot (hcell 0 (by omega))
        subst hspot
        refine ⟨ab, ao, rfl, fun i hi => ?_⟩
        rw [hlen] at hi
        have := hcell i (by omega)
        rw [Addr.add_lit] at this
        rw [this]
        simp [List.getD, hi]
    · injection hx with hx1 hx2
      subst hx1
      have := hw _ (by rw [DataW.weights, Tryz.underlying32]; exact List.mem_cons_self)
      rw [bytes8'] at this
      simp only [lits, List.length_map, List.length_take, List.length_drop, reachBytes] at this
      rw [hlen]
      omega
set_option maxRecDepth 20000 in
theorem open_bss {W : World} {base : Nat} {v : Value} {d : DataW H} {p : List MemPlace} (hval : Value.okWide Tryz.prog W .any base 22 v) (h : DataW.Trod enc Tryz.prog W 0 (fun _ => true) true 22 v d p) :
    ∃ (n : Nat) (L : Nat → List Int), (∀ i, i < n → Bytes (L i)) ∧ RdBB W v n L ∧ ((∀ k ∈ d.weights Tryz.prog 22, k ≤ reachBytes) → ∀ i, i < n → (L i).length ≤ 140737488351232) := by
  obtain ⟨a1, len, cap1, rfl⟩ := okWide_slice Tryz.underlying22 hval
  obtain ⟨fuel, hf⟩ := h
  rcases Go.Deep.open_slice Tryz.underlying22 hf with ⟨hcs, hx⟩ | ⟨a, len2, cap, m, n, D, Pl, hcs, _, hl, hm, hmm, hx, hel⟩
  · simp [Value.cells] at hcs
    obtain ⟨rfl, rfl, rfl⟩ := hcs
    exact ⟨0, fun _ => [], fun i hi => by omega, ⟨none, 0, rfl, Nat.le_refl _, by omega, Or.inl rfl⟩, fun _ i hi => by omega⟩
  · simp [Value.cells] at hcs
    obtain ⟨rfl, rfl, rfl⟩ := hcs
    simp only [if_true] at hmm
    subst hmm
    rw [cells_bs] at hel
    have each : ∀ i, i < m → ∃ l : List Int, Bytes l ∧ (∃ u, W.cell? (a.add i) = some u ∧ Rd W u l) ∧ ((∀ k ∈ (D i).weights Tryz.prog 32, k ≤ reachBytes) → l.length ≤ 140737488351232) := by
      intro i hi
      obtain ⟨cs', h1, h2⟩ := hel i hi
      obtain ⟨_, hlen, hcell⟩ := World.cells?_some h1
      obtain ⟨u, l, rfl, hb, hr, hs⟩ := open_row h2
      have c0 := hcell 0 (by simp)
      rw [Go.Deep.add_add, Nat.mul_one, Nat.add_zero] at c0
      refine ⟨l, hb, ⟨u, ?_, hr⟩, hs⟩
      simpa using c0
    obtain ⟨L, hL⟩ := Go.Deep.choose_lt each
    injection hx with hx1 hx2
    refine ⟨len, L, fun i hi => (hL i (by omega)).1, ⟨some a, m, rfl, hl, hm, ?_⟩, fun hw i hi => (hL i (by omega)).2.2 fun k hk => ?_⟩
    · by_cases h0 : len = 0
      · exact Or.inl h0
      · right
        obtain ⟨ab, ao, spot⟩ := a
        obtain ⟨u0, hu0, _⟩ := (hL 0 (by omega)).2.1
        have hspot : spot = none := by simpa [Addr.add] using World.cell?_spot hu0
        subst hspot
        refine ⟨ab, ao, rfl, fun i hi => ?_⟩
        obtain ⟨u, hu, hr⟩ := (hL i (by omega)).2.1
        rw [Addr.add_lit] at hu
        exact ⟨u, hu, hr⟩
    · refine hw k ?_
      rw [hx1, DataW.weights, Tryz.underlying22]
      exact List.mem_cons_of_mem _ (List.mem_append_left _ (weights_all hk (List.mem_map.2 ⟨i, List.mem_range.2 hi, rfl⟩)))
end Go.Proofs.YtlpdhglibgnkoaaGreat

namespace Go.Proofs.YtlpdhglibgnkoaaGreat
open Go.RowKit
set_option linter.unusedVariables false
set_option maxRecDepth 20000

theorem aplL_len (t m : Int) (L : List En) (g : Gm) (A : Nat → Rc) (n : Nat) : (aplL t m L g A n).length ≤ 64 := by
  unfold aplL
  split
  · rename_i h
    unfold aplE at h
    split at h
    · split at h
      · rename_i h1; exact absurd h h1.2
      · split at h
        · exact absurd h (by decide)
        · split at h
          · exact absurd h (by decide)
          · rename_i M hM
            rw [hM]
            split at h
            · exact absurd h (by decide)
            · rename_i h2; simpa using h2
    · rename_i h1; exact absurd h h1
  · simp
theorem unt_zero {L : List Sn} {k : Int} : untS L k = 0 ↔ ∀ y ∈ L, k < y.t := by
  unfold untS
  rw [List.countP_eq_zero]
  constructor
  · intro h y hy; have := h y hy; simp at this; exact this
  · intro h y hy; have := h y hy; simp; exact this
theorem unt_cons (h : Sn) (L : List Sn) (k : Int) : untS (h :: L) k = untS L k + (if h.t ≤ k then 1 else 0) := by
  unfold untS
  rw [List.countP_cons]
  simp
theorem unt_at : ∀ {L : List Sn} {k : Int}, RiseT L → ∀ i, i < L.length → ((atS L i).t ≤ k ↔ i < untS L k)
  | [], k, _, i, hi => by simp at hi
  | h :: L, k, hr, i, hi => by
    obtain ⟨h1, h2⟩ := List.pairwise_cons.1 hr
    have hz : ¬ h.t ≤ k → untS L k = 0 := fun hh => unt_zero.2 fun y hy => by have := h1 y hy; omega
    rw [unt_cons]
    cases i with
    | zero =>
      show h.t ≤ k ↔ _
      by_cases hh : h.t ≤ k
      · rw [if_pos hh]; omega
      · rw [if_neg hh, hz hh]; omega
    | succ i =>
      have ih := unt_at (k := k) h2 i (by simp at hi; omega)
      show (atS L i).t ≤ k ↔ _
      rw [ih]
      by_cases hh : h.t ≤ k
      · rw [if_pos hh]; omega
      · rw [if_neg hh, hz hh]; omega
theorem atS_mem {L : List Sn} {i : Nat} (h : i < L.length) : atS L i ∈ L := by
  unfold atS; rw [List.getD_eq_getElem?_getD, List.getElem?_eq_getElem h]; exact List.getElem_mem h
theorem is_iff {L : List Sn} (hr : RiseT L) (k : Int) : isS L k = true ↔ ∃ y ∈ L, y.t = k := by
  have hle := untS_le L k
  constructor
  · intro h
    unfold isS at h
    simp at h
    exact ⟨_, atS_mem (by omega), h.2⟩
  · rintro ⟨y, hy, rfl⟩
    obtain ⟨i, hi, rfl⟩ := List.getElem_of_mem hy
    have e : ∀ j (hj : j < L.length), atS L j = L[j] := fun j hj => by unfold atS; rw [List.getD_eq_getElem?_getD, List.getElem?_eq_getElem hj]; rfl
    have h1 := (unt_at (k := L[i].t) hr i hi).1 (by rw [e i hi]; exact Int.le_refl _)
    have h2 := (unt_at (k := L[i].t) hr (untS L L[i].t - 1) (by omega)).2 (by omega)
    unfold isS
    simp
    refine ⟨by omega, ?_⟩
    rcases Nat.lt_or_eq_of_le (show i ≤ untS L L[i].t - 1 by omega) with hlt | heq
    · have h3 := List.pairwise_iff_getElem.1 hr i (untS L L[i].t - 1) hi (by omega) hlt
      rw [e _ (by omega)] at h2
      omega
    · rw [← heq, e i hi]
theorem mem_laidS {L : List Sn} {x y : Sn} : y ∈ laidS L x ↔ y = x ∨ y ∈ L := by
  unfold laidS
  rw [List.mem_append, List.mem_cons]
  constructor
  · rintro (h | h | h)
    · exact Or.inr (List.mem_of_mem_take h)
    · exact Or.inl h
    · exact Or.inr (List.mem_of_mem_drop h)
  · rintro (h | h)
    · exact Or.inr (Or.inl h)
    · rw [← List.take_append_drop (untS L x.t) L, List.mem_append] at h
      rcases h with h | h
      · exact Or.inl h
      · exact Or.inr (Or.inr h)
/-- Kept, or below all that are kept where there are as many as there may be. -/
def Gone (M : Nat) (L : List Sn) (k : Int) : Prop := isS L k = true ∨ (L.length = M ∧ untS L k = 0)
/-- What is laid, and the least one let go. -/
theorem laid_split {L : List Sn} {x : Sn} (hr : RiseT L) (hn : isS L x.t = false) (hp : 0 < untS L x.t) : ∃ h T, L = h :: T ∧ laidS L x = h :: (laidS L x).tail ∧ h.t < x.t ∧ (∀ y ∈ (laidS L x).tail, y = x ∨ y ∈ T) ∧ (x ∈ (laidS L x).tail) ∧ (∀ y ∈ T, y ∈ (laidS L x).tail) ∧ ∀ y ∈ (laidS L x).tail, h.t < y.t := by
  cases L with
  | nil => simp [untS] at hp
  | cons h T =>
    obtain ⟨h1, h2⟩ := List.pairwise_cons.1 hr
    have hle : h.t ≤ x.t := (unt_at (k := x.t) hr 0 (by simp)).2 hp
    have hne : h.t ≠ x.t := fun e => by
      have := (is_iff hr x.t).2 ⟨h, List.mem_cons_self, e⟩
      rw [this] at hn; cases hn
    obtain ⟨u, hu⟩ : ∃ u, untS (h :: T) x.t = u + 1 := ⟨untS (h :: T) x.t - 1, by omega⟩
    have e : laidS (h :: T) x = h :: (T.take u ++ x :: T.drop u) := by
      unfold laidS; rw [hu, List.take_succ_cons, List.drop_succ_cons]; rfl
    refine ⟨h, T, rfl, by rw [e]; rfl, by omega, ?_, ?_, ?_, ?_⟩
    · rw [e]
      intro y hy
      show y = x ∨ y ∈ T
      rcases List.mem_append.1 hy with hy | hy
      · exact Or.inr (List.mem_of_mem_take hy)
      · rcases List.mem_cons.1 hy with hy | hy
        · exact Or.inl hy
        · exact Or.inr (List.mem_of_mem_drop hy)
    · rw [e]; exact List.mem_append_right _ List.mem_cons_self
    · rw [e]
      intro y hy
      show y ∈ T.take u ++ x :: T.drop u
      rw [← List.take_append_drop u T, List.mem_append] at hy
      rcases hy with hy | hy
      · exact List.mem_append_left _ hy
      · exact List.mem_append_right _ (List.mem_cons_of_mem _ hy)
    · rw [e]
      intro y hy
      have hy' : y ∈ T.take u ++ x :: T.drop u := hy
      rcases List.mem_append.1 hy' with hy | hy
      · exact h1 y (List.mem_of_mem_take hy)
      · rcases List.mem_cons.1 hy with hy | hy
        · rw [hy]; omega
        · exact h1 y (List.mem_of_mem_drop hy)
theorem stp_zero {M : Nat} {L : List Sn} {g : Gm} {R : List Rc} (h : stpE M L g R = 0) : isS L g.t = false ∧ ¬ (L.length = M ∧ untS L g.t = 0) := by
  unfold stpE at h
  split at h
  · exact absurd h (by decide)
  · split at h
    · exact absurd h (by decide)
    · rename_i h1 h2
      exact ⟨by simpa using h1, h2⟩
theorem keep_new {M : Nat} {L : List Sn} {x : Sn} (hr : RiseT L) (hr' : RiseT (keepS M L x)) (hl : L.length ≤ M) (hn : isS L x.t = false) (hs : ¬ (L.length = M ∧ untS L x.t = 0)) : Gone M (keepS M L x) x.t := by
  left
  refine (is_iff hr' x.t).2 ⟨x, ?_, rfl⟩
  unfold keepS
  split
  · exact mem_laidS.2 (Or.inl rfl)
  · have hp : 0 < untS L x.t := by
      rcases Nat.eq_zero_or_pos (untS L x.t) with h | h
      · exact absurd ⟨by omega, h⟩ hs
      · exact h
    obtain ⟨h, T, e1, e2, h3, h4, h5, h6, h7⟩ := laid_split hr hn hp
    exact h5
theorem keep_old {M : Nat} {L : List Sn} {x : Sn} {k : Int} (hr : RiseT L) (hr' : RiseT (keepS M L x)) (hl : L.length ≤ M) (hn : isS L x.t = false) (hs : ¬ (L.length = M ∧ untS L x.t = 0)) (h : Gone M L k) : Gone M (keepS M L x) k := by
  by_cases hlt : L.length < M
  · have e : keepS M L x = laidS L x := if_pos hlt
    rw [e] at hr' ⊢
    rcases h with h | h
    · left
      obtain ⟨y, hy, rfl⟩ := (is_iff hr k).1 h
      exact (is_iff hr' _).2 ⟨y, mem_laidS.2 (Or.inr hy), rfl⟩
    · omega
  · have e : keepS M L x = (laidS L x).tail := if_neg hlt
    rw [e] at hr' ⊢
    have hp : 0 < untS L x.t := by
      rcases Nat.eq_zero_or_pos (untS L x.t) with h | h
      · exact absurd ⟨by omega, h⟩ hs
      · exact h
    obtain ⟨h0, T, e1, e2, h3, h4, h5, h6, h7⟩ := laid_split hr hn hp
    have hlen : (laidS L x).tail.length = M := by rw [List.length_tail, laidS_len]; omega
    rcases h with h | h
    · obtain ⟨y, hy, rfl⟩ := (is_iff hr k).1 h
      rw [e1] at hy
      rcases List.mem_cons.1 hy with rfl | hy
      · exact Or.inr ⟨hlen, unt_zero.2 h7⟩
      · exact Or.inl ((is_iff hr' _).2 ⟨y, h6 y hy, rfl⟩)
    · right
      refine ⟨hlen, unt_zero.2 fun y hy => ?_⟩
      have hz := unt_zero.1 h.2
      have h0k : k < h0.t := hz h0 (by rw [e1]; exact List.mem_cons_self)
      have := h7 y hy
      omega
theorem tk_new {s : Sto} {l : List Int} (hr : RiseT s.L) (hr' : RiseT (tkL s l)) (hl : s.L.length ≤ s.M) (h : tkE s l = 0) : rgE l = 0 ∧ Gone s.M (tkL s l) (rgG l).t := by
  have h0 : rgE l = 0 := by
    unfold tkE at h
    split at h
    · assumption
    · exact h
  have hs : stpE s.M s.L (rgG l) (rgL l) = 0 := by unfold tkE at h; rw [if_pos h0] at h; exact h
  obtain ⟨a, b⟩ := stp_zero hs
  have e : tkL s l = keepS s.M s.L (tkX s.L (rgG l) (rgL l)) := if_pos h
  rw [e] at hr' ⊢
  exact ⟨h0, keep_new (x := tkX s.L (rgG l) (rgL l)) hr hr' hl a b⟩
theorem tk_old {s : Sto} {l : List Int} {k : Int} (hr : RiseT s.L) (hr' : RiseT (tkL s l)) (hl : s.L.length ≤ s.M) (hg : Gone s.M s.L k) : Gone s.M (tkL s l) k := by
  by_cases h : tkE s l = 0
  · have h0 : rgE l = 0 := by
      unfold tkE at h
      split at h
      · assumption
      · exact h
    have hs : stpE s.M s.L (rgG l) (rgL l) = 0 := by unfold tkE at h; rw [if_pos h0] at h; exact h
    obtain ⟨a, b⟩ := stp_zero hs
    have e : tkL s l = keepS s.M s.L (tkX s.L (rgG l) (rgL l)) := if_pos h
    rw [e] at hr' ⊢
    exact keep_old (x := tkX s.L (rgG l) (rgL l)) hr hr' hl a b hg
  · have e : tkL s l = s.L := if_neg h
    rw [e]; exact hg
/-- No snapshot that is kept has more entities than there may be. -/
def Few (L : List Sn) : Prop := ∀ y ∈ L, y.E.length ≤ 64
theorem few_tk {s : Sto} {l : List Int} (h : Few s.L) : Few (tkL s l) := by
  unfold tkL
  split
  · have hx : (tkX s.L (rgG l) (rgL l)).E.length ≤ 64 := aplL_len _ _ _ _ _ _
    have hl : Few (laidS s.L (tkX s.L (rgG l) (rgL l))) := fun y hy => by
      rcases mem_laidS.1 hy with rfl | hy
      · exact hx
      · exact h y hy
    unfold keepS
    split
    · exact hl
    · exact fun y hy => hl y (List.mem_of_mem_tail hy)
  · exact h
theorem StoV.rise {w : World} {B S R : Nat} {v : Value} {rs : Rs} {s : Sto} (h : StoV w B S R v rs s) : RiseT s.L := Fa2.rise Kp.key h.kept h.rng.ok.rise
theorem StoV.lens {w : World} {B S R : Nat} {v : Value} {rs : Rs} {s : Sto} (h : StoV w B S R v rs s) : s.L.length ≤ s.M ∧ s.M ≤ 64 := by
  have h1 := h.kept.len
  have h2 := h.rng.ok.len
  have h3 := h.rng.ok.most
  have h4 := h.most
  omega
end Go.Proofs.YtlpdhglibgnkoaaGreat

namespace Go.Proofs.YtlpdhglibgnkoaaGreat
open Go.RowKit
set_option linter.unusedVariables false
set_option maxRecDepth 20000

/-- A value that a call owns, of these cells (their type: e). -/
def OwnL (e : TypeId) (w : World) (B : Nat) (v : Value) (L : List Value) : Prop := w.ownsRow B e 1 v L.length L
section
variable {e : TypeId} {w w' : World} {B : Nat} {v : Value} {L : List Value}
theorem OwnL.nil (w : World) (B : Nat) : OwnL e w B (.slice none 0 0) [] := World.ownsRow_nil w B _ _
theorem OwnL.lt (h : OwnL e w B v L) : ∀ k, v.ownBlock = some k → B ≤ k ∧ k < w.heap.size := World.ownsRow.lt h
theorem OwnL.kept (h : OwnL e w B v L) {r : Option Nat} (hg : w.grownBy w' r) (hr : v.ownBlock = none ∨ v.ownBlock ≠ r) : OwnL e w' B v L := World.ownsRow.kept h hg hr
theorem OwnL.below (h : OwnL e w B v L) (hb : Below w.heap.size w w') : OwnL e w' B v L := by
  refine ⟨h.1, ?_⟩
  rcases h.2 with hn | ⟨g, cap, cur, hv, hB, hg, rest⟩
  · exact Or.inl hn
  · exact Or.inr ⟨g, cap, cur, hv, hB, (hb.block g (Array.getElem?_eq_some_iff.1 hg).1).trans hg, rest⟩
theorem OwnL.drewN (h : OwnL e w B v L) (n : Nat) : OwnL e (w.drewN n) B v L := h
theorem OwnL.form (h : OwnL e w B v L) : ∃ ao cap, v = .slice ao L.length cap ∧ L.length ≤ cap ∧ cap ≤ 9223372036854775807 ∧ (ao = none → cap = 0) := by
  rcases h.2 with ⟨rfl, h0⟩ | ⟨g, cap, cur, hv, hb, hg, hc, hm, _⟩
  · exact ⟨none, 0, by rw [h0], by omega, by omega, fun _ => rfl⟩
  · exact ⟨_, cap, hv, hc, hm, fun h => by simp at h⟩
theorem OwnL.some_ (h : OwnL e w B v L) (hl : L ≠ []) : ∃ g cap cur, v = .slice (some ⟨g, 0, none⟩) L.length cap ∧ B ≤ g ∧ w.heap[g]? = some (.cells cur e (0, 0)) ∧ L.length ≤ cap ∧ cap ≤ 9223372036854775807 ∧ cur.size = cap * 1 ∧ cur.toList.take (L.length * 1) = L := by
  have hp := List.length_pos_iff.2 hl
  rcases h.2 with ⟨_, h0⟩ | h
  · omega
  · exact h
theorem rowL_at {g cap : Nat} {cur : Array Value} (hg : w.heap[g]? = some (.cells cur e (0, 0))) (hc : L.length ≤ cap) (hs : cur.size = cap * 1) (ht : cur.toList.take (L.length * 1) = L) (j : Nat) (u : Value) (h : L[j]? = some u) : w.cell? ⟨g, j, none⟩ = some u := by
  have hj : j < L.length * 1 := by have := (List.getElem?_eq_some_iff.1 h).1; omega
  rw [row_cell hg, ← h]
  conv => rhs; rw [← ht]
  rw [List.getElem?_take, if_pos hj]
  simp
theorem OwnL.at (h : OwnL e w B v L) {g n cap : Nat} (hv : v = .slice (some ⟨g, 0, none⟩) n cap) {i : Nat} {u : Value} (hi : L[i]? = some u) : w.cell? ⟨g, i, none⟩ = some u := by
  obtain ⟨g', cap', cur, hv', hB, hg, hc, hm, hs, ht⟩ := h.some_ (by intro h; rw [h] at hi; simp at hi)
  rw [hv] at hv'; injection hv' with h1 _ _; injection h1 with h1; injection h1 with h1 _ _; subst h1
  exact rowL_at hg hc hs ht _ _ hi
theorem OwnL.mono {C : Nat} (h : OwnL e w B v L) (hC : C ≤ B) : OwnL e w C v L := by
  refine ⟨h.1, ?_⟩
  rcases h.2 with hn | ⟨g, cap, cur, hv, hB, rest⟩
  · exact Or.inl hn
  · exact Or.inr ⟨g, cap, cur, hv, Nat.le_trans hC hB, rest⟩
end
theorem own_type {e : TypeId} {w : World} {B sz n : Nat} {v : Value} {xs : List Value} (h : w.ownsRow B e sz v n xs) {g : Nat} (hg : v.ownBlock = some g) : ∃ cur, w.heap[g]? = some (.cells cur e (0, 0)) := by
  rcases h.2 with ⟨rfl, _⟩ | ⟨k, cap, cur, rfl, hB, hk, _⟩
  · simp [Value.ownBlock] at hg
  · have : k = g := Option.some.inj hg
    subst this; exact ⟨cur, hk⟩
/-- Rows of things of two types lie in two blocks. -/
theorem own_apart {e e' : TypeId} (he : e ≠ e') {w : World} {B B' sz sz' n n' : Nat} {v v' : Value} {xs xs' : List Value} (h : w.ownsRow B e sz v n xs) (h' : w.ownsRow B' e' sz' v' n' xs') : v.ownBlock = none ∨ v.ownBlock ≠ v'.ownBlock := by
  cases hq : v.ownBlock with
  | none => exact Or.inl rfl
  | some g =>
    right
    intro hq'
    obtain ⟨c, hc⟩ := own_type h hq
    obtain ⟨c', hc'⟩ := own_type h' hq'.symm
    rw [hc] at hc'
    injection hc' with hc'
    injection hc' with _ h2 _
    exact he h2
/-- The row's block is not the store's, nor its ring's. -/
def Offs (S R : Nat) (a : Value) : Prop := some S ≠ a.ownBlock ∧ some R ≠ a.ownBlock
theorem OwnL.chs {e : TypeId} (hO : e ≠ 90) {w w' : World} {B C S R : Nat} {v v' a : Value} {rs : Rs} {s : Sto} {L : List Value} (ho : OwnL e w C a L) (h : StoV w B S R v rs s) (hs : Offs S R a) (k : Chs B S R v v' w w') : OwnL e w' C a L := by
  refine ⟨ho.1, ?_⟩
  have hap := own_apart hO ho h.rng.own
  rcases ho.2 with hn | ⟨g, cap, cur, hv', hB, hg, rest⟩
  · exact Or.inl hn
  · have hgl : g < w.heap.size := (Array.getElem?_eq_some_iff.1 hg).1
    subst hv'
    refine Or.inr ⟨g, cap, cur, rfl, hB, (k.block g hgl (fun e => hs.1 (by rw [← e]; rfl)) (fun e => hs.2 (by rw [← e]; rfl)) (fun e => ?_)).trans hg, rest⟩
    rcases hap with h' | h'
    · cases h'
    · exact h' (by rw [← e]; rfl)
def mostN (n : Int) : Nat := 1 + (n % 64).toNat
theorem most_bd (n : Int) : 1 ≤ mostN n ∧ mostN n ≤ 64 := by unfold mostN; omega
theorem most_any (w : World) (n : Int) : Calls Tryz.prog 5 #[.int .i64 n] w fun e w' => e = .returned (.int .i64 (mostN n : Nat)) ∧ w' = w := by
  have e0 : ((mostN n : Nat) : Int) = 1 + n % 64 := by unfold mostN; omega
  rw [e0]
  have h1 : IntKind.u64.wrap n = n % 18446744073709551616 := IntKind.wrap_u64 n
  have h2 : Int.tmod (n % 18446744073709551616) 64 = n % 64 := by
    rw [Int.tmod_eq_emod_of_nonneg (by omega)]; omega
  have h3 : IntKind.i64.wrap (n % 64) = n % 64 := by rw [IntKind.wrap_i64]; omega
  have h4 : IntKind.i64.wrap (1 + n % 64) = 1 + n % 64 := by rw [IntKind.wrap_i64]; omega
  have h5 : IntKind.u64.wrap (n % 64) = n % 64 := by rw [IntKind.wrap_u64]; omega
  go_enter Tryz.func5, Tryz.ntmps5
  go_wp2_with fail
  go_ret
  exact ⟨rfl, rfl⟩

/-- How many bytes these are together. -/
def sumL (L : Nat → List Int) : Nat → Nat
  | 0 => 0
  | n + 1 => sumL L n + (L n).length
theorem sumL_le {L : Nat → List Int} {n : Nat} (h : ∀ i, i < n → (L i).length ≤ 140737488351232) : ∀ k, k ≤ n → sumL L k ≤ k * 140737488351232
  | 0, _ => by simp [sumL]
  | k + 1, hk => by
    have := sumL_le h k (by omega)
    have := h k (by omega)
    unfold sumL; omega
theorem sumL_at {L : Nat → List Int} : ∀ {n i : Nat}, i < n → (L i).length ≤ sumL L n
  | n + 1, i, h => by
    unfold sumL
    rcases Nat.lt_or_eq_of_le (Nat.le_of_lt_succ h) with h | rfl
    · have := sumL_at (L := L) h; omega
    · omega
/-- The sum, as it is reckoned. -/
def sumW (L : Nat → List Int) : Nat → Int
  | 0 => 0
  | n + 1 => IntKind.i64.wrap (sumW L n + ((L n).length : Int))
theorem sumW_eq {L : Nat → List Int} {n : Nat} (hn : n ≤ 60) (h : ∀ i, i < n → (L i).length ≤ 140737488351232) : ∀ k, k ≤ n → sumW L k = (sumL L k : Nat)
  | 0, _ => rfl
  | k + 1, hk => by
    have h1 := sumW_eq hn h k (by omega)
    have h2 := sumL_le h k (by omega)
    have h3 := h k (by omega)
    show IntKind.i64.wrap (sumW L k + ((L k).length : Int)) = ((sumL L k + (L k).length : Nat) : Int)
    rw [h1, IntKind.wrap_i64]
    omega
def greatB (L : Nat → List Int) (n : Nat) : Bool := decide (60 < n) || decide (20000 < sumW L n)
theorem great_no {L : Nat → List Int} {n : Nat} (h : ∀ i, i < n → (L i).length ≤ 140737488351232) (hg : greatB L n = false) : n ≤ 60 ∧ ∀ i, i < n → (L i).length ≤ 20000 := by
  unfold greatB at hg
  simp at hg
  refine ⟨hg.1, fun i hi => ?_⟩
  have h1 := sumW_eq hg.1 h n (Nat.le_refl _)
  have h2 := sumL_at (L := L) hi
  omega
theorem st_great (w : World) (v : Value) (n : Nat) (L : Nat → List Int) (hv : RdBB w v n L) : Calls Tryz.prog 7 #[v] w fun e w' => e = .returned (.bool (greatB L n)) ∧ w' = w := by
  obtain ⟨ao, cap, rfl, h1, h2, h3⟩ := hv
  have P3 : Hid _ := h3
  clear h3
  go_enter Tryz.func7, Tryz.ntmps7
  go_wp2_with fail
  go_loopg [3, 8] n (fun g sm i wr => ∃ k : Nat, k + g = n ∧ i = .int .i64 k ∧ sm = .int .i64 (sumW L k) ∧ wr = w)
  case atStart => exact ⟨0, by omega, rfl, rfl, rfl⟩
  case round =>
    obtain ⟨k, hk, rfl, rfl, rfl⟩ := hrel
    by_cases hlt : k < n
    · obtain ⟨b, o, rfl, hat⟩ := P3.out.resolve_left (by omega)
      obtain ⟨u, c0, hr⟩ := hat k hlt
      obtain ⟨ao2, cp2, rfl, -⟩ := hr
      have hS : Hid (sumW L (k + 1) = IntKind.i64.wrap (sumW L k + ((L k).length : Int))) := rfl
      obtain ⟨y, hy⟩ : ∃ y, sumW L (k + 1) = y := ⟨_, rfl⟩
      have HY : Hid (sumW L (k + 1) = y) := hy
      rw [hy] at hS
      have hS' : IntKind.i64.wrap (sumW L k + ((L k).length : Int)) = y := hS.out.symm
      clear hat hy
      go_wp2_with fail
      go_roundg (n - (k + 1))
      case measure => omega
      case rel => exact ⟨k + 1, by omega, by go_num, by rw [HY.out], rfl⟩
    · obtain rfl : k = n := by omega
      by_cases h60 : 60 < k
      · have d1 : decide ((60 : Int) < (k : Int)) = true := by simp; omega
        have e : greatB L k = true := by unfold greatB; rw [decide_eq_true h60]; rfl
        go_wp2_with fail
        go_ret
        rw [e]
        exact ⟨rfl, rfl⟩
      · have d1 : decide ((60 : Int) < (k : Int)) = false := by simp; omega
        have e : greatB L k = decide (20000 < sumW L k) := by unfold greatB; rw [decide_eq_false h60]; rfl
        go_wp2_with fail
        go_ret
        rw [e]
        exact ⟨rfl, rfl⟩
end Go.Proofs.YtlpdhglibgnkoaaGreat

namespace Go.Proofs.YtlpdhglibgnkoaaGreat
open Go.RowKit
set_option linter.unusedVariables false
set_option maxRecDepth 20000

/-- Bytes that were taken, as they came. -/
def Took (w : World) (T : List (Value × List Int)) (s : Sto) : Prop := ∀ p ∈ T, Rd w p.1 p.2 ∧ Bytes p.2 ∧ p.2.length ≤ 20000 ∧ rgE p.2 = 0 ∧ Gone s.M s.L (rgG p.2).t
theorem Took.nil (w : World) (s : Sto) : Took w [] s := fun p hp => by cases hp
theorem Took.old {w : World} {T : List (Value × List Int)} {s : Sto} {l : List Int} (h : Took w T s) (hr : RiseT s.L) (hr' : RiseT (accS s l).L) (hl : s.L.length ≤ s.M) : Took w T (accS s l) := fun p hp => by
  obtain ⟨a, b, c, d, e⟩ := h p hp
  exact ⟨a, b, c, d, tk_old (l := l) hr hr' hl e⟩
theorem Took.new {w : World} {T : List (Value × List Int)} {s : Sto} {l : List Int} {u : Value} (h : Took w T s) (hr : RiseT s.L) (hr' : RiseT (accS s l).L) (hl : s.L.length ≤ s.M) (h0 : tkE s l = 0) (hu : Rd w u l) (hb : Bytes l) (hlen : l.length ≤ 20000) : Took w (T ++ [(u, l)]) (accS s l) := fun p hp => by
  rcases List.mem_append.1 hp with hp | hp
  · exact h.old hr hr' hl p hp
  · rw [List.mem_singleton.1 hp]
    obtain ⟨a, b⟩ := tk_new (l := l) hr hr' hl h0
    exact ⟨hu, hb, hlen, a, b⟩
end Go.Proofs.YtlpdhglibgnkoaaGreat

namespace Go.Proofs.YtlpdhglibgnkoaaGreat
open Go.RowKit
set_option linter.unusedVariables false
set_option maxRecDepth 20000

/-- Of those that were told, the last M are kept. -/
structure Tel (M : Nat) (own L : List Sn) : Prop where
  kept : L = own.drop (own.length - M)
  rise : own.Pairwise fun a b => a.t < b.t ∧ a.m < b.m
  good : ∀ y ∈ own, snE y.t y.m y.E = 0 ∧ ∀ x ∈ y.E, x.ok
theorem Tel.nil (M : Nat) : Tel M [] [] := ⟨by simp, List.Pairwise.nil, fun y hy => by cases hy⟩
theorem Tel.len {M : Nat} {own L : List Sn} (h : Tel M own L) : L.length = min own.length M := by rw [h.kept, List.length_drop]; omega
end Go.Proofs.YtlpdhglibgnkoaaGreat

namespace Go.Proofs.YtlpdhglibgnkoaaGreat
open Go.ChangeShapes Go.WideShapes Go.ChangeAt Go.RowKit
set_option linter.unusedVariables false
set_option maxRecDepth 20000
variable {H : Type} {enc : TypeId × Value → H}

theorem own_chs {e : TypeId} (hO : e ≠ 90) {w w' : World} {B C S R sz n : Nat} {v v' a : Value} {rs : Rs} {s : Sto} {xs : List Value} (ho : w.ownsRow C e sz a n xs) (h : StoV w B S R v rs s) (hs : Offs S R a) (k : Chs B S R v v' w w') : w'.ownsRow C e sz a n xs := by
  refine ⟨ho.1, ?_⟩
  have hap := own_apart hO ho h.rng.own
  rcases ho.2 with hn | ⟨g, cap, cur, hv', hB, hg, rest⟩
  · exact Or.inl hn
  · have hgl : g < w.heap.size := (Array.getElem?_eq_some_iff.1 hg).1
    subst hv'
    refine Or.inr ⟨g, cap, cur, rfl, hB, (k.block g hgl (fun e => hs.1 (by rw [← e]; rfl)) (fun e => hs.2 (by rw [← e]; rfl)) (fun e => ?_)).trans hg, rest⟩
    rcases hap with h' | h'
    · cases h'
    · exact h' (by rw [← e]; rfl)
/-- Snapshots as cells: tick, time, the value of the entities. -/
abbrev Tri := Int × Int × Value
def snC (L : List Tri) : List Value := L.flatMap fun p => [.int .i64 p.1, .int .i64 p.2.1, p.2.2]
theorem snC_len : ∀ L : List Tri, (snC L).length = L.length * 3
  | [] => rfl
  | p :: L => by
    show ([.int .i64 p.1, .int .i64 p.2.1, p.2.2] ++ snC L).length = _
    rw [List.length_append, snC_len L]; simp; omega
theorem snC_app (L M : List Tri) : snC (L ++ M) = snC L ++ snC M := by unfold snC; rw [List.flatMap_append]
theorem snC_at : ∀ {L : List Tri} {i : Nat} (h : i < L.length), (snC L)[i * 3]? = some (.int .i64 L[i].1) ∧ (snC L)[i * 3 + 1]? = some (.int .i64 L[i].2.1) ∧ (snC L)[i * 3 + 2]? = some L[i].2.2
  | p :: L, 0, _ => ⟨rfl, rfl, rfl⟩
  | p :: L, i + 1, h => by
    have e : snC (p :: L) = [.int .i64 p.1, .int .i64 p.2.1, p.2.2] ++ snC L := rfl
    obtain ⟨a, b, c⟩ := snC_at (L := L) (i := i) (by simpa using h)
    rw [e, List.getElem?_append_right (by simp; omega), List.getElem?_append_right (by simp; omega), List.getElem?_append_right (by simp; omega)]
    simp only [List.length_cons, List.length_nil, List.getElem_cons_succ]
    rw [show (i + 1) * 3 - 3 = i * 3 by omega, show (i + 1) * 3 + 1 - 3 = i * 3 + 1 by omega, show (i + 1) * 3 + 2 - 3 = i * 3 + 2 by omega]
    exact ⟨a, b, c⟩
/-- A value that a call owns, of these snapshots. -/
def OwnS (w : World) (B : Nat) (v : Value) (L : List Tri) : Prop := w.ownsRow B 45 3 v L.length (snC L)
theorem OwnS.nil (w : World) (B : Nat) : OwnS w B (.slice none 0 0) [] := World.ownsRow_nil w B _ _
theorem OwnS.below {w w' : World} {B : Nat} {v : Value} {L : List Tri} (h : OwnS w B v L) (hb : Below w.heap.size w w') : OwnS w' B v L := by
  refine ⟨h.1, ?_⟩
  rcases h.2 with hn | ⟨g, cap, cur, hv, hB, hg, rest⟩
  · exact Or.inl hn
  · exact Or.inr ⟨g, cap, cur, hv, hB, (hb.block g (Array.getElem?_eq_some_iff.1 hg).1).trans hg, rest⟩
theorem OwnS.form {w : World} {B : Nat} {v : Value} {L : List Tri} (h : OwnS w B v L) : ∃ ao cap, v = .slice ao L.length cap ∧ L.length ≤ cap ∧ cap ≤ 9223372036854775807 ∧ (L ≠ [] → ∃ g, ao = some ⟨g, 0, none⟩ ∧ g < w.heap.size ∧ ∀ i (hi : i < L.length), w.cell? ⟨g, i * 3, none⟩ = some (.int .i64 L[i].1) ∧ w.cell? ⟨g, i * 3 + 1, none⟩ = some (.int .i64 L[i].2.1) ∧ w.cell? ⟨g, i * 3 + 2, none⟩ = some L[i].2.2) := by
  rcases h.2 with ⟨rfl, h0⟩ | ⟨g, cap, cur, hv, hb, hg, hc, hm, hs, ht⟩
  · exact ⟨none, 0, by rw [h0], by omega, by omega, fun hne => absurd (List.eq_nil_of_length_eq_zero h0) hne⟩
  · refine ⟨_, cap, hv, hc, hm, fun _ => ⟨g, rfl, (Array.getElem?_eq_some_iff.1 hg).1, fun i hi => ?_⟩⟩
    have hat : ∀ (j : Nat) (u : Value), (snC L)[j]? = some u → w.cell? ⟨g, j, none⟩ = some u := fun j u hj => by
      have hj' : j < L.length * 3 := by have := (List.getElem?_eq_some_iff.1 hj).1; rwa [snC_len] at this
      rw [row_cell hg, ← hj, ← ht, List.getElem?_take, if_pos hj']
      simp
    obtain ⟨a, b, c⟩ := snC_at hi
    exact ⟨hat _ _ a, hat _ _ b, hat _ _ c⟩
theorem infoSn : (Tryz.prog.info? 45).map (fun i => (i.zero, i.size, i.bytes)) = some (some (.agg #[.int .i64 0, .int .i64 0, .slice none 0 0]), 3, 40) := by kernel_rfl
/-- A value that reads as these snapshots: number i has the tick T i, the time M i, the entities' value U i, of N i entities A i. -/
structure Sns where
  T : Nat → Int
  M : Nat → Int
  U : Nat → Value
  N : Nat → Nat
  A : Nat → Nat → En
def RdSn (w : World) (v : Value) (n : Nat) (Z : Sns) : Prop :=
  ∃ ao cap, v = .slice ao n cap ∧ n ≤ cap ∧ cap ≤ 9223372036854775807 ∧ (n = 0 ∨ ∃ b o, ao = some ⟨b, o, none⟩ ∧
    ∀ i, i < n → w.cell? ⟨b, o + i * 3, none⟩ = some (.int .i64 (Z.T i)) ∧ w.cell? ⟨b, o + i * 3 + 1, none⟩ = some (.int .i64 (Z.M i)) ∧ w.cell? ⟨b, o + i * 3 + 2, none⟩ = some (Z.U i) ∧ RdE w (Z.U i) (Z.N i) (Z.A i))
/-- A value that reads as these bools. -/
def RdBo (w : World) (v : Value) (n : Nat) (F : Nat → Bool) : Prop :=
  ∃ ao cap, v = .slice ao n cap ∧ n ≤ cap ∧ cap ≤ 9223372036854775807 ∧ (n = 0 ∨ ∃ b o, ao = some ⟨b, o, none⟩ ∧ ∀ i, i < n → w.cell? ⟨b, o + i, none⟩ = some (.bool (F i)))
end Go.Proofs.YtlpdhglibgnkoaaGreat

namespace Go.Proofs.YtlpdhglibgnkoaaGreat
open Go.RowKit
set_option linter.unusedVariables false
set_option maxRecDepth 20000

/-- Bytes of this head and these records tell a store the snapshot x behind these. -/
structure Says' (M : Nat) (own : List Sn) (x : Sn) (G : Gm) (R : List Rc) : Prop where
  ok : G.ok
  recs : ∀ i, i < R.length → (atR R i).ok
  told : ∀ (s : Sto) (l : List Int), s.M = M → Tel M own s.L → rgE l = 0 → rgG l = G → rgL l = R → tkE s l = 0 ∧ tkT s l = x.t ∧ Tel M (own ++ [x]) (accS s l).L
theorem box_apart {e t : TypeId} (he : e ≠ t) {w : World} {B sz n g : Nat} {a : Value} {xs : List Value} {cs : Array Value} (ho : w.ownsRow B e sz a n xs) (hg : w.heap[g]? = some (.cells cs t (0, 0))) : a.ownBlock = none ∨ a.ownBlock ≠ some g := by
  cases hq : a.ownBlock with
  | none => exact Or.inl rfl
  | some q =>
    right
    intro e'
    injection e' with e'
    subst e'
    obtain ⟨c, hc⟩ := own_type ho hq
    rw [hg] at hc
    injection hc with hc
    injection hc with _ h2 _
    exact he h2.symm
theorem StoV.box {t : TypeId} (hE : 69 ≠ t) (hO : 90 ≠ t) {w w' : World} {B S R g : Nat} {v : Value} {rs : Rs} {s : Sto} {cs : Array Value} (h : StoV w B S R v rs s) (hg : w.heap[g]? = some (.cells cs t (0, 0))) (hS : g ≠ S) (hR : g ≠ R) (k : w.grownBy w' (some g)) : StoV w' B S R v rs s := by
  refine ⟨h.blk.grwn k (fun e => by injection e with e; exact hS e.symm), ⟨h.rng.blk.grwn k (fun e => by injection e with e; exact hR e.symm), h.rng.own.kept k (box_apart hO h.rng.own hg), h.rng.ok, h.rng.ones, h.rng.ne, h.rng.le⟩, h.most, h.kept.mono ?_, h.ne, h.nev, h.le, h.num⟩
  rintro p s ⟨ao, n, c, rfl, h1, h2⟩
  exact ⟨ao, n, c, rfl, World.ownsRow.kept h1 k (box_apart hE h1 hg), h2⟩
def triZ (Z : Sns) (k : Nat) : Tri := (Z.T k, Z.M k, Z.U k)
def snZ (Z : Sns) (k : Nat) : Sn := ⟨Z.T k, Z.M k, preE (Z.A k) (Z.N k)⟩
/-- What is kept at a place is what was told there. -/
theorem Tel.at {M : Nat} {own L : List Sn} (h : Tel M own L) {i : Nat} (hi : i < L.length) : own[own.length - L.length + i]? = some (atS L i) := by
  have hl := h.len
  have e : own.length - M = own.length - L.length := by omega
  have h2 : L[i]? = own[own.length - L.length + i]? := by
    conv => lhs; rw [h.kept]
    rw [List.getElem?_drop, e]
  rw [← h2]
  unfold atS
  rw [List.getD_eq_getElem?_getD, List.getElem?_eq_getElem hi]; rfl
end Go.Proofs.YtlpdhglibgnkoaaGreat

namespace Go.Proofs.YtlpdhglibgnkoaaGreat
open Go.RowKit
set_option linter.unusedVariables false
set_option maxRecDepth 20000

theorem asc_chk : ∀ {R : List Rc} {a : Int}, asc a R → ∀ r ∈ R, chk r = 0
  | [], _, _, r, hr => by cases hr
  | x :: R, a, h, r, hr => by
    rcases List.mem_cons.1 hr with rfl | hr
    · exact h.2.2.1
    · exact asc_chk h.2.2.2 r hr
/-- What Apply makes may be. -/
theorem apl_sn {t m : Int} {L : List En} {g : Gm} {A : Nat → Rc} {n : Nat} (h : aplE t m L g A n = 0) : snE g.t g.m (aplL t m L g A n) = 0 := by
  have hL : aplL t m L g A n = (apl (wasL g.b L) (pre A n)).getD [] := by unfold aplL; rw [if_pos h]
  unfold aplE at h
  split at h
  · rename_i h0
    split at h
    · rename_i h1; exact absurd h h1.2
    · rename_i h1
      split at h
      · exact absurd h (by decide)
      · split at h
        · exact absurd h (by decide)
        · rename_i M hM
          have hlen : ¬ 64 < M.length := by
            intro hq; rw [if_pos hq] at h; exact absurd h (by decide)
          rw [hM] at hL
          have hL' : aplL t m L g A n = M := hL
          rw [hL']
          have ha := gm_asc h0
          have hw : rise (-1) (wasL g.b L) := by
            unfold wasL
            split
            · trivial
            · rename_i hb
              have : snE t m L = 0 := by
                rcases Classical.em (snE t m L = 0) with q | q
                · exact q
                · exact absurd ⟨hb, q⟩ h1
              exact (sn_ok this).2.2.2.2
          have hr : rise (-1) M := all_rise (pre A n) hw (asc_chk ha) (by rw [← apl_all _ _ (-1) hw ha]; exact hM)
          obtain ⟨q1, q2, q3, q4, _⟩ := hed_ok (gm_head h0)
          unfold snE
          rw [if_neg, if_neg hlen]
          · exact (ids_rise M (-1) (by omega)).2 hr
          · unfold timB
            simp
            omega
  · rename_i h0; exact absurd h h0
/-- What is kept may be; times rise. -/
structure Gd (L : List Sn) : Prop where
  time : L.Pairwise fun a b => a.m < b.m
  good : ∀ y ∈ L, snE y.t y.m y.E = 0
theorem Gd.nil : Gd [] := ⟨List.Pairwise.nil, fun y hy => by cases hy⟩
theorem stp_all {M : Nat} {L : List Sn} {g : Gm} {R : List Rc} (h : stpE M L g R = 0) : tkA L g R = 0 ∧ lateB L (tkX L g R) = false := by
  unfold stpE at h
  split at h
  · exact absurd h (by decide)
  · split at h
    · exact absurd h (by decide)
    · split at h
      · exact absurd h (by decide)
      · split at h
        · rename_i q; exact absurd h q
        · rename_i q
          split at h
          · exact absurd h (by decide)
          · rename_i q2
            exact ⟨by simpa using q, by simpa using q2⟩
theorem atS_get {L : List Sn} {i : Nat} (h : i < L.length) : atS L i = L[i] := by
  unfold atS; rw [List.getD_eq_getElem?_getD, List.getElem?_eq_getElem h]; rfl
theorem laid_time {L : List Sn} {x : Sn} (h : L.Pairwise fun a b => a.m < b.m) (hl : lateB L x = false) : (laidS L x).Pairwise fun a b => a.m < b.m := by
  have hu := untS_le L x.t
  unfold lateB at hl
  simp at hl
  obtain ⟨u, hue⟩ : ∃ u, untS L x.t = u := ⟨_, rfl⟩
  unfold laidS
  rw [hue] at hl hu ⊢
  have hlo : ∀ a ∈ L.take u, a.m < x.m := fun a ha => by
    obtain ⟨i, hi, rfl⟩ := List.getElem_of_mem ha
    rw [List.length_take] at hi
    rw [List.getElem_take]
    have h1 := hl.1 (by omega)
    rw [atS_get (by omega)] at h1
    rcases Nat.lt_or_eq_of_le (show i ≤ u - 1 by omega) with q | q
    · have := List.pairwise_iff_getElem.1 h i (u - 1) (by omega) (by omega) q
      omega
    · subst q; omega
  have hhi : ∀ b ∈ L.drop u, x.m < b.m := fun b hb => by
    obtain ⟨i, hi, rfl⟩ := List.getElem_of_mem hb
    rw [List.length_drop] at hi
    rw [List.getElem_drop]
    have h1 := hl.2 (by omega)
    rw [atS_get (by omega)] at h1
    rcases Nat.eq_zero_or_pos i with q | q
    · subst q; simpa using h1
    · have := List.pairwise_iff_getElem.1 h u (u + i) (by omega) (by omega) (by omega)
      omega
  have hsplit : (L.take u ++ L.drop u).Pairwise fun a b => a.m < b.m := by rw [List.take_append_drop]; exact h
  obtain ⟨p1, p2, p3⟩ := List.pairwise_append.1 hsplit
  refine List.pairwise_append.2 ⟨p1, List.pairwise_cons.2 ⟨hhi, p2⟩, fun a ha b hb => ?_⟩
  rcases List.mem_cons.1 hb with rfl | hb
  · exact hlo a ha
  · exact p3 a ha b hb
theorem gd_tk {s : Sto} {l : List Int} (h : Gd s.L) : Gd (tkL s l) := by
  by_cases h0 : tkE s l = 0
  · have e : tkL s l = keepS s.M s.L (tkX s.L (rgG l) (rgL l)) := if_pos h0
    have hr : rgE l = 0 := by
      unfold tkE at h0
      split at h0
      · assumption
      · exact h0
    have hs : stpE s.M s.L (rgG l) (rgL l) = 0 := by unfold tkE at h0; rw [if_pos hr] at h0; exact h0
    obtain ⟨a, b⟩ := stp_all hs
    have hx : snE (tkX s.L (rgG l) (rgL l)).t (tkX s.L (rgG l) (rgL l)).m (tkX s.L (rgG l) (rgL l)).E = 0 := apl_sn a
    have hlt := laid_time h.time b
    have hgl : ∀ y ∈ laidS s.L (tkX s.L (rgG l) (rgL l)), snE y.t y.m y.E = 0 := fun y hy => by
      rcases mem_laidS.1 hy with rfl | hy
      · exact hx
      · exact h.good y hy
    rw [e]
    unfold keepS
    split
    · exact ⟨hlt, hgl⟩
    · exact ⟨hlt.tail, fun y hy => hgl y (List.mem_of_mem_tail hy)⟩
  · have e : tkL s l = s.L := if_neg h0
    rw [e]; exact h
end Go.Proofs.YtlpdhglibgnkoaaGreat

namespace Go.Proofs.YtlpdhglibgnkoaaGreat
open Go.RowKit
set_option linter.unusedVariables false
set_option maxRecDepth 20000

/-- Row a holds copies of the first snapshots that are kept. -/
structure Was (w : World) (H S : Nat) (L : List Sn) (a : Value) (T : List Tri) : Prop where
  row : OwnS w H a T
  off : Offs S H a
  len : T.length ≤ L.length
  at_ : ∀ j (hj : j < T.length), T[j].1 = (atS L j).t ∧ T[j].2.1 = (atS L j).m ∧ OwnE w H T[j].2.2 (atS L j).E ∧ Offs S H T[j].2.2
theorem Was.nil (w : World) (H S : Nat) (L : List Sn) : Was w H S L (.slice none 0 0) [] :=
  ⟨OwnS.nil _ _, ⟨by simp [Value.ownBlock], by simp [Value.ownBlock]⟩, by simp, fun j hj => by simp at hj⟩
theorem Was.below {w w' : World} {H S : Nat} {L : List Sn} {a : Value} {T : List Tri} (h : Was w H S L a T) (b : Below w.heap.size w w') : Was w' H S L a T :=
  ⟨h.row.below b, h.off, h.len, fun j hj => by obtain ⟨p, q, r, s⟩ := h.at_ j hj; exact ⟨p, q, r.below b, s⟩⟩
theorem Was.drew {w : World} {H S : Nat} {L : List Sn} {a : Value} {T : List Tri} (h : Was w H S L a T) : Was w.drew H S L a T :=
  ⟨h.row, h.off, h.len, fun j hj => h.at_ j hj⟩
theorem StoV.drew {w : World} {B S R : Nat} {v : Value} {rs : Rs} {s : Sto} (h : StoV w B S R v rs s) : StoV w.drew B S R v rs s := h.drewN 1
theorem Was.chs {w w' : World} {B H S : Nat} {L : List Sn} {a v v' : Value} {T : List Tri} {rs : Rs} {s : Sto} (h : Was w H S L a T) (hv : StoV w B S H v rs s) (k : Chs B S H v v' w w') : Was w' H S L a T :=
  ⟨own_chs (by decide) h.row hv h.off k, h.off, h.len, fun j hj => by
    obtain ⟨p, q, r, o⟩ := h.at_ j hj
    exact ⟨p, q, own_chs (by decide) r hv o k, o⟩⟩
theorem Was.grow {w w' : World} {H S : Nat} {L : List Sn} {a a' : Value} {T : List Tri} (h : Was w H S L a T) (hS : S < w.heap.size) (hH : H < w.heap.size) (p : Tri) (hn : T.length < L.length) (p0 : p.1 = (atS L T.length).t) (p1 : p.2.1 = (atS L T.length).m) (p2 : OwnE w H p.2.2 (atS L T.length).E) (p3 : Offs S H p.2.2) (ho : OwnS w' H a' (T ++ [p])) (g : Grow H a w a' w') : Was w' H S L a' (T ++ [p]) := by
  refine ⟨ho, ?_, by rw [List.length_append]; simp; omega, fun j hj => ?_⟩
  · rcases g.blk with e | e
    · unfold Offs; rw [e]; exact h.off
    · unfold Offs; rw [e]
      exact ⟨fun h' => by injection h' with h'; omega, fun h' => by injection h' with h'; omega⟩
  · have hk : ∀ {u : Value} {E : List En}, OwnE w H u E → OwnE w' H u E := fun r => World.ownsRow.kept r g.by_ (own_apart (by decide) r h.row)
    by_cases hlt : j < T.length
    · rw [List.getElem_append_left hlt]
      obtain ⟨a, b, c, d⟩ := h.at_ j hlt
      exact ⟨a, b, hk c, d⟩
    · have hj' : j = T.length := by rw [List.length_append] at hj; simp at hj; omega
      subst hj'
      rw [List.getElem_append_right (Nat.le_refl _)]
      simp only [Nat.sub_self, List.getElem_cons_zero]
      exact ⟨p0, p1, hk p2, p3⟩
end Go.Proofs.YtlpdhglibgnkoaaGreat
