/-
  Texts St18, St19, St20 in one.
-/
import Derived.Deep.Grids
import Derived.Test.YtokegpajjicehaaGreatP38
namespace Go.Proofs.YtokegpajjicehaaGreat
open Go.RowKit
set_option linter.unusedVariables false
set_option maxRecDepth 20000

/-- Of those that were told, the last M are kept. -/
structure Tel (M : Nat) (own L : List Sn) : Prop where
  kept : L = own.drop (own.length - M)
  rise : own.Pairwise fun a b => a.t < b.t ∧ a.m < b.m
  good : ∀ y ∈ own, snE y.t y.m y.E = 0 ∧ ∀ x ∈ y.E, x.ok
theorem Tel.nil (M : Nat) : Tel M [] [] := ⟨by simp, List.Pairwise.nil, fun y hy => by cases hy⟩
theorem Tel.len {M : Nat} {own L : List Sn} (h : Tel M own L) : L.length = min own.length M := by rw [h.kept, List.length_drop]; omega
theorem Tel.mem {M : Nat} {own L : List Sn} (h : Tel M own L) {y : Sn} (hy : y ∈ L) : y ∈ own := by rw [h.kept] at hy; exact List.mem_of_mem_drop hy
theorem Tel.riseT {M : Nat} {own L : List Sn} (h : Tel M own L) : RiseT L := by
  rw [h.kept]
  exact (h.rise.imp fun hab => hab.1).drop
/-- Above the last one is above all. -/
theorem tel_all {own : List Sn} {y x : Sn} (hr : (own ++ [y]).Pairwise fun a b => a.t < b.t ∧ a.m < b.m) (h : y.t < x.t ∧ y.m < x.m) : ∀ z ∈ own ++ [y], z.t < x.t ∧ z.m < x.m := fun z hz => by
  rcases List.mem_append.1 hz with hz | hz
  · have := (List.pairwise_append.1 hr).2.2 z hz y (by simp)
    omega
  · rw [List.mem_singleton.1 hz]; exact h
theorem unt_all {L : List Sn} {k : Int} (h : ∀ y ∈ L, y.t ≤ k) : untS L k = L.length := by
  unfold untS
  rw [List.countP_eq_length]
  intro y hy; simpa using h y hy
theorem laid_last {L : List Sn} {x : Sn} (h : ∀ y ∈ L, y.t < x.t) : laidS L x = L ++ [x] := by
  unfold laidS
  rw [unt_all (fun y hy => Int.le_of_lt (h y hy)), List.take_length, List.drop_length]
theorem tel_step {M : Nat} (hM : 1 ≤ M) {own L : List Sn} (h : Tel M own L) {x : Sn} (hx : snE x.t x.m x.E = 0) (ok : ∀ e ∈ x.E, e.ok) (ha : ∀ y ∈ own, y.t < x.t ∧ y.m < x.m) {g : Gm} {R : List Rc} (hg : g.t = x.t) (hX : tkX L g R = x) (hA : tkA L g R = 0) (hB : g.b = -1 ∨ isS L g.b = true) :
    stpE M L g R = 0 ∧ keepS M L x = (own ++ [x]).drop ((own ++ [x]).length - M) ∧ Tel M (own ++ [x]) (keepS M L x) := by
  have hL : ∀ y ∈ L, y.t < x.t ∧ y.m < x.m := fun y hy => ha y (h.mem hy)
  have hun : untS L x.t = L.length := unt_all fun y hy => Int.le_of_lt (hL y hy).1
  have hlen := h.len
  have hne : isS L x.t = false := by
    cases hq : isS L x.t with
    | false => rfl
    | true =>
      obtain ⟨y, hy, e⟩ := (is_iff h.riseT x.t).1 hq
      have := (hL y hy).1; omega
  have hst : stpE M L g R = 0 := by
    unfold stpE
    rw [hg, if_neg (by rw [hne]; decide), if_neg (by rw [hun]; omega), if_neg (by rintro ⟨a, b⟩; rcases hB with c | c; exact a c; rw [c] at b; cases b), if_neg (by rw [hA]; decide), hX, if_neg]
    unfold lateB
    rw [hun]
    simp
    intro hp
    have hi : L.length - 1 < L.length := by omega
    have := (hL _ (atS_mem hi)).2
    omega
  have hkeep : keepS M L x = (own ++ [x]).drop ((own ++ [x]).length - M) := by
    unfold keepS
    rw [laid_last fun y hy => (hL y hy).1]
    rw [List.length_append, List.length_singleton]
    by_cases hlt : L.length < M
    · rw [if_pos hlt, h.kept]
      rw [show own.length - M = 0 by omega, show own.length + 1 - M = 0 by omega]
      rfl
    · rw [if_neg hlt, h.kept]
      have h1 : own.length + 1 - M ≤ own.length := by omega
      rw [List.drop_append_of_le_length h1]
      have h2 : own.drop (own.length - M) ≠ [] := by
        intro e; have := congrArg List.length e; rw [List.length_drop] at this; simp at this; omega
      rw [List.tail_append_of_ne_nil h2, List.tail_drop]
      congr 2
      omega
  refine ⟨hst, hkeep, hkeep, ?_, ?_⟩
  · rw [List.pairwise_append]
    refine ⟨h.rise, List.pairwise_singleton _ _, fun a ha' b hb => ?_⟩
    rw [List.mem_singleton.1 hb]; exact ha a ha'
  · intro y hy
    rcases List.mem_append.1 hy with hy | hy
    · exact h.good y hy
    · rw [List.mem_singleton.1 hy]; exact ⟨hx, ok⟩
/-- A snapshot that is told in full. -/
theorem tel_full {M : Nat} (hM : 1 ≤ M) {own : List Sn} {s : Sto} (hs : s.M = M) (h : Tel M own s.L) {x : Sn} (ok : ∀ e ∈ x.E, e.ok) (ha : ∀ y ∈ own, y.t < x.t ∧ y.m < x.m) (hf : fulE x.t x.m x.E = 0) {l : List Int}
    (h1 : rgE l = 0) (h2 : rgG l = ⟨x.t, x.m, -1⟩) (h3 : rgL l = fulL x.t x.m x.E) : tkE s l = 0 ∧ tkT s l = x.t ∧ Tel M (own ++ [x]) (accS s l).L := by
  obtain ⟨k1, k2⟩ := ful_back (t := 0) (m := 0) (L := []) ok hf
  have hb : tkB s.L (-1) = noSn := by unfold tkB; rw [if_pos rfl]
  have hA : tkA s.L ⟨x.t, x.m, -1⟩ (fulL x.t x.m x.E) = 0 := by unfold tkA; rw [show (⟨x.t, x.m, -1⟩ : Gm).b = -1 from rfl, hb]; exact k1
  have hX : tkX s.L ⟨x.t, x.m, -1⟩ (fulL x.t x.m x.E) = x := by
    unfold tkX
    rw [show (⟨x.t, x.m, -1⟩ : Gm).b = -1 from rfl, hb]
    cases x; exact congrArg (Sn.mk _ _) k2
  obtain ⟨a, b, c⟩ := tel_step hM h (ful_told hf ok).1 ok ha (g := ⟨x.t, x.m, -1⟩) rfl hX hA (Or.inl rfl)
  have e : tkE s l = 0 := by unfold tkE; rw [if_pos h1, h2, h3, hs]; exact a
  refine ⟨e, by unfold tkT; rw [if_pos e, h2], ?_⟩
  show Tel M (own ++ [x]) (tkL s l)
  have e2 : tkL s l = keepS s.M s.L (tkX s.L (rgG l) (rgL l)) := if_pos e
  rw [e2, h2, h3, hX, hs]
  exact c
/-- A snapshot that is told by the last one. -/
theorem tel_diff {M : Nat} (hM : 1 ≤ M) {own : List Sn} {y : Sn} {s : Sto} (hs : s.M = M) (h : Tel M (own ++ [y]) s.L) {x : Sn} (ok : ∀ e ∈ x.E, e.ok) (ha : y.t < x.t ∧ y.m < x.m) (hf : dlE y.t y.m y.E x.t x.m x.E = 0) {l : List Int}
    (h1 : rgE l = 0) (h2 : rgG l = ⟨x.t, x.m, y.t⟩) (h3 : rgL l = dlL y.t y.m y.E x.t x.m x.E) : tkE s l = 0 ∧ tkT s l = x.t ∧ Tel M (own ++ [y] ++ [x]) (accS s l).L := by
  have oy := (h.good y (by simp)).2
  obtain ⟨d1, d2, d3, d4, d5, d6⟩ := dl_told hf oy ok
  obtain ⟨k1, _, _, k2⟩ := told_back d1 d2 d3 d6
  have hyL : y ∈ s.L := by
    rw [h.kept, List.length_append, List.length_singleton, List.drop_append_of_le_length (by omega)]
    simp
  have hlast : s.L.length - 1 < s.L.length := by have := List.length_pos_of_mem hyL; omega
  have hall := tel_all h.rise ha
  have hys : ∀ z ∈ s.L, z.t ≤ y.t := fun z hz => by
    have hz' := h.mem hz
    rcases List.mem_append.1 hz' with hz' | hz'
    · have := (List.pairwise_append.1 h.rise).2.2 z hz' y (by simp); omega
    · rw [List.mem_singleton.1 hz']; exact Int.le_refl _
  have his : isS s.L y.t = true := (is_iff h.riseT y.t).2 ⟨y, hyL, rfl⟩
  have hget : getS s.L y.t = y := by
    unfold getS
    rw [if_pos his, unt_all hys]
    unfold atS
    rw [List.getD_eq_getElem?_getD, h.kept, List.length_append, List.length_singleton, List.drop_append_of_le_length (by omega), List.length_append, List.length_singleton, Nat.add_sub_cancel, List.getElem?_append_right (Nat.le_refl _)]
    simp
  have hy0 : (0 : Int) ≤ y.t := (sn_ok d1).1
  have hb : tkB s.L y.t = y := by unfold tkB; rw [if_neg (by omega)]; exact hget
  have hA : tkA s.L ⟨x.t, x.m, y.t⟩ (dlL y.t y.m y.E x.t x.m x.E) = 0 := by unfold tkA; rw [show (⟨x.t, x.m, y.t⟩ : Gm).b = y.t from rfl, hb]; exact k1
  have hX : tkX s.L ⟨x.t, x.m, y.t⟩ (dlL y.t y.m y.E x.t x.m x.E) = x := by
    unfold tkX
    rw [show (⟨x.t, x.m, y.t⟩ : Gm).b = y.t from rfl, hb]
    cases x; exact congrArg (Sn.mk _ _) k2
  obtain ⟨a, b, c⟩ := tel_step hM h d2 ok hall (g := ⟨x.t, x.m, y.t⟩) rfl hX hA (Or.inr his)
  have e : tkE s l = 0 := by unfold tkE; rw [if_pos h1, h2, h3, hs]; exact a
  refine ⟨e, by unfold tkT; rw [if_pos e, h2], ?_⟩
  show Tel M (own ++ [y] ++ [x]) (tkL s l)
  have e2 : tkL s l = keepS s.M s.L (tkX s.L (rgG l) (rgL l)) := if_pos e
  rw [e2, h2, h3, hX, hs]
  exact c
end Go.Proofs.YtokegpajjicehaaGreat

namespace Go.Proofs.YtokegpajjicehaaGreat
open Go.ChangeShapes Go.WideShapes Go.ChangeAt Go.RowKit
set_option linter.unusedVariables false
set_option maxRecDepth 20000
variable {H : Type} {enc : TypeId × Value → H}

theorem StoV.growN {e : TypeId} (hE : 40 ≠ e) (hO : 128 ≠ e) {w w' : World} {B C S R sz n : Nat} {v a a' : Value} {rs : Rs} {s : Sto} {xs : List Value} (h : StoV w B S R v rs s) (ho : w.ownsRow C e sz a n xs) (g : Grow C a w a' w') (hs : Offs S R a) : StoV w' B S R v rs s ∧ Offs S R a' := by
  have hSl := h.blk.lt
  have hRl := h.rng.blk.lt
  refine ⟨⟨h.blk.grwn g.by_ hs.1, ⟨h.rng.blk.grwn g.by_ hs.2, h.rng.own.kept g.by_ (own_apart hO h.rng.own ho), h.rng.ok, h.rng.ones, h.rng.ne, h.rng.le⟩, h.most, h.kept.mono ?_, h.ne, h.nev, h.le, h.num⟩, ?_⟩
  · rintro p s ⟨ao, n, c, rfl, h1, h2⟩
    exact ⟨ao, n, c, rfl, World.ownsRow.kept h1 g.by_ (own_apart hE h1 ho), h2⟩
  · rcases g.blk with e | e
    · unfold Offs; rw [e]; exact hs
    · unfold Offs; rw [e]
      exact ⟨fun h' => by injection h' with h'; omega, fun h' => by injection h' with h'; omega⟩
theorem own_chs {e : TypeId} (hO : e ≠ 128) {w w' : World} {B C S R sz n : Nat} {v v' a : Value} {rs : Rs} {s : Sto} {xs : List Value} (ho : w.ownsRow C e sz a n xs) (h : StoV w B S R v rs s) (hs : Offs S R a) (k : Chs B S R v v' w w') : w'.ownsRow C e sz a n xs := by
  refine ⟨ho.1, ?_⟩
  have hap := own_apart hO ho h.rng.own
  rcases ho.2 with hn | ⟨g, cap, cur, hv', hB, hg, rest⟩
  · exact Or.inl hn
  · have hgl : g < w.heap.size := (Array.getElem?_eq_some_iff.1 hg).1
    subst hv'
    refine Or.inr ⟨g, cap, cur, rfl, hB, (k.block g hgl (fun e => hs.1 (by rw [← e]; rfl)) (fun e => hs.2 (by rw [← e]; rfl)) (fun e => ?_)).trans hg, rest⟩
    rcases hap with h' | h'
    · cases h'
    · exact h' (by rw [← e]; rfl)
/-- Snapshots as cells: tick, time, the value of the entities. -/
abbrev Tri := Int × Int × Value
def snC (L : List Tri) : List Value := L.flatMap fun p => [.int .i64 p.1, .int .i64 p.2.1, p.2.2]
theorem snC_len : ∀ L : List Tri, (snC L).length = L.length * 3
  | [] => rfl
  | p :: L => by
    show ([.int .i64 p.1, .int .i64 p.2.1, p.2.2] ++ snC L).length = _
    rw [List.length_append, snC_len L]; simp; omega
theorem snC_app (L M : List Tri) : snC (L ++ M) = snC L ++ snC M := by unfold snC; rw [List.flatMap_append]
theorem snC_at : ∀ {L : List Tri} {i : Nat} (h : i < L.length), (snC L)[i * 3]? = some (.int .i64 L[i].1) ∧ (snC L)[i * 3 + 1]? = some (.int .i64 L[i].2.1) ∧ (snC L)[i * 3 + 2]? = some L[i].2.2
  | p :: L, 0, _ => ⟨rfl, rfl, rfl⟩
  | p :: L, i + 1, h => by
    have e : snC (p :: L) = [.int .i64 p.1, .int .i64 p.2.1, p.2.2] ++ snC L := rfl
    obtain ⟨a, b, c⟩ := snC_at (L := L) (i := i) (by simpa using h)
    rw [e, List.getElem?_append_right (by simp; omega), List.getElem?_append_right (by simp; omega), List.getElem?_append_right (by simp; omega)]
    simp only [List.length_cons, List.length_nil, List.getElem_cons_succ]
    rw [show (i + 1) * 3 - 3 = i * 3 by omega, show (i + 1) * 3 + 1 - 3 = i * 3 + 1 by omega, show (i + 1) * 3 + 2 - 3 = i * 3 + 2 by omega]
    exact ⟨a, b, c⟩
/-- A value that a call owns, of these snapshots. -/
def OwnS (w : World) (B : Nat) (v : Value) (L : List Tri) : Prop := w.ownsRow B 24 3 v L.length (snC L)
theorem OwnS.nil (w : World) (B : Nat) : OwnS w B (.slice none 0 0) [] := World.ownsRow_nil w B _ _
theorem OwnS.below {w w' : World} {B : Nat} {v : Value} {L : List Tri} (h : OwnS w B v L) (hb : Below w.heap.size w w') : OwnS w' B v L := by
  refine ⟨h.1, ?_⟩
  rcases h.2 with hn | ⟨g, cap, cur, hv, hB, hg, rest⟩
  · exact Or.inl hn
  · exact Or.inr ⟨g, cap, cur, hv, hB, (hb.block g (Array.getElem?_eq_some_iff.1 hg).1).trans hg, rest⟩
theorem OwnS.form {w : World} {B : Nat} {v : Value} {L : List Tri} (h : OwnS w B v L) : ∃ ao cap, v = .slice ao L.length cap ∧ L.length ≤ cap ∧ cap ≤ 9223372036854775807 ∧ (L ≠ [] → ∃ g, ao = some ⟨g, 0, none⟩ ∧ g < w.heap.size ∧ ∀ i (hi : i < L.length), w.cell? ⟨g, i * 3, none⟩ = some (.int .i64 L[i].1) ∧ w.cell? ⟨g, i * 3 + 1, none⟩ = some (.int .i64 L[i].2.1) ∧ w.cell? ⟨g, i * 3 + 2, none⟩ = some L[i].2.2) := by
  rcases h.2 with ⟨rfl, h0⟩ | ⟨g, cap, cur, hv, hb, hg, hc, hm, hs, ht⟩
  · exact ⟨none, 0, by rw [h0], by omega, by omega, fun hne => absurd (List.eq_nil_of_length_eq_zero h0) hne⟩
  · refine ⟨_, cap, hv, hc, hm, fun _ => ⟨g, rfl, (Array.getElem?_eq_some_iff.1 hg).1, fun i hi => ?_⟩⟩
    have hat : ∀ (j : Nat) (u : Value), (snC L)[j]? = some u → w.cell? ⟨g, j, none⟩ = some u := fun j u hj => by
      have hj' : j < L.length * 3 := by have := (List.getElem?_eq_some_iff.1 hj).1; rwa [snC_len] at this
      rw [row_cell hg, ← hj, ← ht, List.getElem?_take, if_pos hj']
      simp
    obtain ⟨a, b, c⟩ := snC_at hi
    exact ⟨hat _ _ a, hat _ _ b, hat _ _ c⟩
theorem infoSn : (Tryz.prog.info? 24).map (fun i => (i.zero, i.size, i.bytes)) = some (some (.agg #[.int .i64 0, .int .i64 0, .slice none 0 0]), 3, 40) := by kernel_rfl
theorem growS_wp {w : World} {ops : Array Oper} {rest : List Oper} {o : Oper} {a : Act} {Q : Exit → Act → World → Prop} (hgd : o.guard = none) (s x : Operand)
    (ho : o.op = .call { callee := .builtin .append, args := #[s, x], argTypes := #[61, 61] })
    (B : Nat) (v : Value) (L : List Tri) (hs : a.eval s = v) (hown : OwnS w B v L) (g0 : Nat) (p : Tri) (hp : p.2.2.oneCell' = true) (hx : a.eval x = .slice (some ⟨g0, 0, none⟩) 1 1)
    (hr : ∀ j u, ([.int .i64 p.1, .int .i64 p.2.1, p.2.2] : List Value)[j]? = some u → w.cell? ⟨g0, j, none⟩ = some u) (hlen : L.length ≤ 1000000) (hB : B ≤ w.heap.size)
    (h : ∀ v' w', OwnS w' B v' (L ++ [p]) → Grow B v w v' w' → wpList Tryz.prog ops Q rest (a.put o.dst v') w') : wpList Tryz.prog ops Q (o :: rest) a w := by
  refine wpList_plain hgd fun K hK => ?_
  obtain ⟨i0, hi, hz0, hz1, hz2⟩ := info_parts infoSn
  refine wp_append_lies w s x 61 ho B 24 i0 (.agg #[.int .i64 0, .int .i64 0, .slice none 0 0]) 3 40 Tryz.underlying61 hi hz0 hz1 hz2 rfl (by decide) v L.length (snC L) hs hown ⟨g0, 0, none⟩ 1 1 [.int .i64 p.1, .int .i64 p.2.1, p.2.2] hx rfl (fun j u hu => ?_) (fun u hu => ?_) (by omega) (by unfold maxLen; omega) (by omega) hB w.heap.size rfl ?_
  · rw [Addr.add_lit, Nat.zero_add]; exact hr j u hu
  · simp only [List.mem_cons, List.not_mem_nil, or_false] at hu
    rcases hu with rfl | rfl | rfl
    · rfl
    · rfl
    · exact hp
  intro g cap' w' hown' hgrow hor hlt
  refine hK _ _ (h _ w' ?_ ⟨(Below.refl B w).grown hgrow hB (fun k hk => (World.ownsRow.lt hown k hk).1), hgrow, ?_⟩)
  · unfold OwnS
    rw [List.length_append, snC_app]
    exact hown'
  · rcases hor with e | e
    · exact Or.inl e.symm
    · right; rw [e]; rfl

/-- A value that reads as these snapshots: number i has the tick T i, the time M i, the entities' value U i, of N i entities A i. -/
structure Sns where
  T : Nat → Int
  M : Nat → Int
  U : Nat → Value
  N : Nat → Nat
  A : Nat → Nat → En
def RdSn (w : World) (v : Value) (n : Nat) (Z : Sns) : Prop :=
  ∃ ao cap, v = .slice ao n cap ∧ n ≤ cap ∧ cap ≤ 9223372036854775807 ∧ (n = 0 ∨ ∃ b o, ao = some ⟨b, o, none⟩ ∧
    ∀ i, i < n → w.cell? ⟨b, o + i * 3, none⟩ = some (.int .i64 (Z.T i)) ∧ w.cell? ⟨b, o + i * 3 + 1, none⟩ = some (.int .i64 (Z.M i)) ∧ w.cell? ⟨b, o + i * 3 + 2, none⟩ = some (Z.U i) ∧ RdE w (Z.U i) (Z.N i) (Z.A i))
set_option maxRecDepth 20000 in
theorem open_snaps {W : World} {base : Nat} {v : Value} {d : DataW H} {p : List MemPlace} (hval : Value.okWide Tryz.prog W .any base 61 v) (h : DataW.Trod enc Tryz.prog W 0 (fun _ => true) true 61 v d p) :
    ∃ (n : Nat) (Z : Sns), (∀ i, i < n → S64 (Z.T i) ∧ S64 (Z.M i) ∧ ∀ k, k < Z.N i → (Z.A i k).ok) ∧ RdSn W v n Z := by
  obtain ⟨a1, len, cap1, rfl⟩ := okWide_slice Tryz.underlying61 hval
  obtain ⟨fuel, hf⟩ := h
  rcases Go.Deep.open_slice Tryz.underlying61 hf with ⟨hcs, hx⟩ | ⟨a, len2, cap, m, n, D, Pl, hcs, _, hl, hm, hmm, hx, hel⟩
  · simp [Value.cells] at hcs
    obtain ⟨rfl, rfl, rfl⟩ := hcs
    exact ⟨0, ⟨fun _ => 0, fun _ => 0, fun _ => .slice none 0 0, fun _ => 0, fun _ _ => noEnt⟩, fun i hi => by omega, none, 0, rfl, Nat.le_refl _, by omega, Or.inl rfl⟩
  · simp [Value.cells] at hcs
    obtain ⟨rfl, rfl, rfl⟩ := hcs
    simp only [if_true] at hmm
    subst hmm
    rw [cells_snap] at hel
    have each : ∀ i, i < m → ∃ q : Int × Int × Value × Nat × (Nat → En), (W.cell? (a.add (i * 3)) = some (.int .i64 q.1) ∧ W.cell? (a.add (i * 3 + 1)) = some (.int .i64 q.2.1) ∧ W.cell? (a.add (i * 3 + 2)) = some q.2.2.1 ∧ RdE W q.2.2.1 q.2.2.2.1 q.2.2.2.2) ∧ S64 q.1 ∧ S64 q.2.1 ∧ ∀ k, k < q.2.2.2.1 → (q.2.2.2.2 k).ok := by
      intro i hi
      obtain ⟨cs', h1, h2⟩ := hel i hi
      obtain ⟨_, hlen, hcell⟩ := World.cells?_some h1
      obtain ⟨t, tm, u, k, A, rfl, s1, s2, hA, hr⟩ := trod_snap h2
      have c0 := hcell 0 (by simp)
      have c1 := hcell 1 (by simp)
      have c2 := hcell 2 (by simp)
      rw [Go.Deep.add_add] at c0 c1 c2
      exact ⟨(t, tm, u, k, A), ⟨by simpa using c0, by simpa using c1, by simpa using c2, hr⟩, s1, s2, hA⟩
    haveI : Inhabited (Int × Int × Value × Nat × (Nat → En)) := ⟨(0, 0, .slice none 0 0, 0, fun _ => noEnt)⟩
    obtain ⟨Y, hY⟩ := Go.Deep.choose_lt each
    refine ⟨len, ⟨fun i => (Y i).1, fun i => (Y i).2.1, fun i => (Y i).2.2.1, fun i => (Y i).2.2.2.1, fun i => (Y i).2.2.2.2⟩, fun i hi => (hY i (by omega)).2, some a, m, rfl, hl, hm, ?_⟩
    by_cases h0 : len = 0
    · exact Or.inl h0
    · right
      obtain ⟨ab, ao, spot⟩ := a
      have hspot : spot = none := by simpa [Addr.add] using World.cell?_spot (hY 0 (by omega)).1.1
      subst hspot
      refine ⟨ab, ao, rfl, fun i hi => ?_⟩
      have := (hY i (by omega)).1
      simp only [Addr.add_lit] at this
      exact this
/-- A value that reads as these bools. -/
def RdBo (w : World) (v : Value) (n : Nat) (F : Nat → Bool) : Prop :=
  ∃ ao cap, v = .slice ao n cap ∧ n ≤ cap ∧ cap ≤ 9223372036854775807 ∧ (n = 0 ∨ ∃ b o, ao = some ⟨b, o, none⟩ ∧ ∀ i, i < n → w.cell? ⟨b, o + i, none⟩ = some (.bool (F i)))
set_option maxRecDepth 20000 in
theorem open_bools' {W : World} {base : Nat} {v : Value} {d : DataW H} {p : List MemPlace} (hval : Value.okWide Tryz.prog W .any base 72 v) (h : DataW.Trod enc Tryz.prog W 0 (fun _ => true) true 72 v d p) :
    ∃ (n : Nat) (F : Nat → Bool), RdBo W v n F := by
  obtain ⟨a1, len, cap1, rfl⟩ := okWide_slice Tryz.underlying72 hval
  obtain ⟨fuel, hf⟩ := h
  rcases Go.Deep.open_bools Tryz.underlying72 Tryz.underlying4 (by kernel_rfl) hf with ⟨hcs, hx⟩ | ⟨a, len2, m, Sx, hcs, _, hl, hm, hx, hel⟩
  · simp [Value.cells] at hcs
    obtain ⟨rfl, rfl, rfl⟩ := hcs
    exact ⟨0, fun _ => false, none, 0, rfl, Nat.le_refl _, by omega, Or.inl rfl⟩
  · simp [Value.cells] at hcs
    obtain ⟨rfl, rfl, rfl⟩ := hcs
    refine ⟨len, Sx, some a, _, rfl, hl, by unfold maxLen at hm; omega, ?_⟩
    by_cases h0 : len = 0
    · exact Or.inl h0
    · right
      obtain ⟨ab, ao, spot⟩ := a
      have hspot : spot = none := by simpa [Addr.add] using World.cell?_spot (hel 0 (by omega))
      subst hspot
      refine ⟨ab, ao, rfl, fun i hi => ?_⟩
      have := hel i (by omega)
      rw [Addr.add_lit] at this
      exact this
end Go.Proofs.YtokegpajjicehaaGreat

namespace Go.Proofs.YtokegpajjicehaaGreat
open Go.RowKit
set_option linter.unusedVariables false
set_option maxRecDepth 20000

/-- Bytes of this head and these records tell a store the snapshot x behind these. -/
structure Says' (M : Nat) (own : List Sn) (x : Sn) (G : Gm) (R : List Rc) : Prop where
  ok : G.ok
  recs : ∀ i, i < R.length → (atR R i).ok
  told : ∀ (s : Sto) (l : List Int), s.M = M → Tel M own s.L → rgE l = 0 → rgG l = G → rgL l = R → tkE s l = 0 ∧ tkT s l = x.t ∧ Tel M (own ++ [x]) (accS s l).L
theorem says_full {M : Nat} (hM : 1 ≤ M) {own : List Sn} {x : Sn} (h1 : S64 x.t) (h2 : S64 x.m) (ok : ∀ e ∈ x.E, e.ok) (ha : ∀ y ∈ own, y.t < x.t ∧ y.m < x.m) (hf : fulE x.t x.m x.E = 0) : Says' M own x (fulG x.t x.m x.E) (fulL x.t x.m x.E) := by
  obtain ⟨_, k1, k2⟩ := ful_told hf ok
  refine ⟨by rw [k1]; exact ⟨h1, h2, by unfold S64; simp only; omega⟩, atR_ok k2.ok, fun s l hs h a b c => ?_⟩
  rw [k1] at b
  exact tel_full hM hs h ok ha hf a b c
theorem says_diff {M : Nat} (hM : 1 ≤ M) {own : List Sn} {x y : Sn} (h0 : S64 y.t) (h1 : S64 x.t) (h2 : S64 x.m) (ok : ∀ e ∈ x.E, e.ok) (oy : ∀ e ∈ y.E, e.ok) (ha : y.t < x.t ∧ y.m < x.m) (hf : dlE y.t y.m y.E x.t x.m x.E = 0) : Says' M (own ++ [y]) x (dlG y.t y.m y.E x.t x.m x.E) (dlL y.t y.m y.E x.t x.m x.E) := by
  obtain ⟨_, _, _, k1, _, k2⟩ := dl_told hf oy ok
  refine ⟨by rw [k1]; exact ⟨h1, h2, h0⟩, atR_ok k2.ok, fun s l hs h a b c => ?_⟩
  rw [k1] at b
  exact tel_diff hM hs h ok ha hf a b c
/-- What is written is taken. -/
theorem Says'.wrt {M : Nat} {own : List Sn} {x : Sn} {G : Gm} {R : List Rc} (h : Says' M own x G R) (hw : wrtE G (atR R) R.length = 0) :
    Bytes (wrtB G (atR R) R.length) ∧ (wrtB G (atR R) R.length).length ≤ 4096 ∧ ∀ s : Sto, s.M = M → Tel M own s.L → tkE s (wrtB G (atR R) R.length) = 0 ∧ tkT s (wrtB G (atR R) R.length) = x.t ∧ Tel M (own ++ [x]) (accS s (wrtB G (atR R) R.length)).L := by
  obtain ⟨h3, h4, h5, h6, h7, h8⟩ := back_gram h.recs hw
  refine ⟨by rw [h7]; exact sealed_ok (gmB_ok h.recs (wrt_ok hw).1).1, (rgE_zero h3).1, fun s hs ht => h.told s _ hs ht h3 h4 (by rw [h5, pre_atR])⟩
theorem box_apart {e t : TypeId} (he : e ≠ t) {w : World} {B sz n g : Nat} {a : Value} {xs : List Value} {cs : Array Value} (ho : w.ownsRow B e sz a n xs) (hg : w.heap[g]? = some (.cells cs t (0, 0))) : a.ownBlock = none ∨ a.ownBlock ≠ some g := by
  cases hq : a.ownBlock with
  | none => exact Or.inl rfl
  | some q =>
    right
    intro e'
    injection e' with e'
    subst e'
    obtain ⟨c, hc⟩ := own_type ho hq
    rw [hg] at hc
    injection hc with hc
    injection hc with _ h2 _
    exact he h2.symm
theorem StoV.box {t : TypeId} (hE : 40 ≠ t) (hO : 128 ≠ t) {w w' : World} {B S R g : Nat} {v : Value} {rs : Rs} {s : Sto} {cs : Array Value} (h : StoV w B S R v rs s) (hg : w.heap[g]? = some (.cells cs t (0, 0))) (hS : g ≠ S) (hR : g ≠ R) (k : w.grownBy w' (some g)) : StoV w' B S R v rs s := by
  refine ⟨h.blk.grwn k (fun e => by injection e with e; exact hS e.symm), ⟨h.rng.blk.grwn k (fun e => by injection e with e; exact hR e.symm), h.rng.own.kept k (box_apart hO h.rng.own hg), h.rng.ok, h.rng.ones, h.rng.ne, h.rng.le⟩, h.most, h.kept.mono ?_, h.ne, h.nev, h.le, h.num⟩
  rintro p s ⟨ao, n, c, rfl, h1, h2⟩
  exact ⟨ao, n, c, rfl, World.ownsRow.kept h1 k (box_apart hE h1 hg), h2⟩
theorem own_box {e t : TypeId} (he : e ≠ t) {w w' : World} {B sz n g : Nat} {a : Value} {xs : List Value} {cs : Array Value} (ho : w.ownsRow B e sz a n xs) (hg : w.heap[g]? = some (.cells cs t (0, 0))) (k : w.grownBy w' (some g)) : w'.ownsRow B e sz a n xs := World.ownsRow.kept ho k (box_apart he ho hg)
/-- Four cells of a block are written. -/
theorem grown4 (w : World) (g : Nat) (x0 x1 x2 x3 : Value) : w.grownBy ((((w.setCell ⟨g, 0, none⟩ x0).setCell ⟨g, 1, none⟩ x1).setCell ⟨g, 2, none⟩ x2).setCell ⟨g, 3, none⟩ x3) (some g) :=
  grown_trans (grown_set w g 0 x0) (grown_trans (grown_set _ g 1 x1) (grown_trans (grown_set _ g 2 x2) (grown_set _ g 3 x3)))
theorem set4 {w : World} {b : Nat} {c0 c1 c2 c3 : Value} (x0 x1 x2 x3 : Value) (h : Blk w b [c0, c1, c2, c3]) : Blk ((((w.setCell ⟨b, 0, none⟩ x0).setCell ⟨b, 1, none⟩ x1).setCell ⟨b, 2, none⟩ x2).setCell ⟨b, 3, none⟩ x3) b [x0, x1, x2, x3] :=
  (((h.set 0 x0 (by simp)).set 1 x1 (by simp)).set 2 x2 (by simp)).set 3 x3 (by simp)
theorem nil_or (J : List Nat) : J = [] ∨ ∃ J' y, J = J' ++ [y] := by
  rcases List.eq_nil_or_concat J with h | ⟨a, b, h⟩
  · exact Or.inl h
  · exact Or.inr ⟨a, b, by rw [h, List.concat_eq_append]⟩
def triZ (Z : Sns) (k : Nat) : Tri := (Z.T k, Z.M k, Z.U k)
def snZ (Z : Sns) (k : Nat) : Sn := ⟨Z.T k, Z.M k, preE (Z.A k) (Z.N k)⟩
theorem ful_zero {t m : Int} {L : List En} (h : fulE t m L ≠ 0) : fulG t m L = ⟨0, 0, 0⟩ ∧ fulL t m L = [] := ⟨by unfold fulG; rw [if_neg h], by unfold fulL; rw [if_neg h]⟩
theorem zero_ok : (⟨0, 0, 0⟩ : Gm).ok ∧ ∀ i, i < ([] : List Rc).length → (atR [] i).ok := ⟨⟨by unfold S64; simp only; omega, by unfold S64; simp only; omega, by unfold S64; simp only; omega⟩, fun i hi => by simp at hi⟩
/-- What is kept at a place is what was told there. -/
theorem Tel.at {M : Nat} {own L : List Sn} (h : Tel M own L) {i : Nat} (hi : i < L.length) : own[own.length - L.length + i]? = some (atS L i) := by
  have hl := h.len
  have e : own.length - M = own.length - L.length := by omega
  have h2 : L[i]? = own[own.length - L.length + i]? := by
    conv => lhs; rw [h.kept]
    rw [List.getElem?_drop, e]
  rw [← h2]
  unfold atS
  rw [List.getD_eq_getElem?_getD, List.getElem?_eq_getElem hi]; rfl
end Go.Proofs.YtokegpajjicehaaGreat
