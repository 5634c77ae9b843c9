/-
  Texts St18, St19, St20, St21, St22 in one.
-/
import Derived.Deep.Grids
import Derived.Test.YtokegpajjicehaaGreatP35
namespace Go.Proofs.YtokegpajjicehaaGreat
open Go.RowKit
set_option linter.unusedVariables false
set_option maxRecDepth 20000

/-- Of those that were told, the last M are kept. -/
structure Tel (M : Nat) (own L : List Sn) : Prop where
  kept : L = own.drop (own.length - M)
  rise : own.Pairwise fun a b => a.t < b.t ∧ a.m < b.m
  good : ∀ y ∈ own, snE y.t y.m y.E = 0 ∧ ∀ x ∈ y.E, x.ok
theorem Tel.nil (M : Nat) : Tel M [] [] := ⟨by simp, List.Pairwise.nil, fun y hy => by cases hy⟩
theorem Tel.len {M : Nat} {own L : List Sn} (h : Tel M own L) : L.length = min own.length M := by rw [h.kept, List.length_drop]; omega
end Go.Proofs.YtokegpajjicehaaGreat

namespace Go.Proofs.YtokegpajjicehaaGreat
open Go.ChangeShapes Go.WideShapes Go.ChangeAt Go.RowKit
set_option linter.unusedVariables false
set_option maxRecDepth 20000
variable {H : Type} {enc : TypeId × Value → H}

theorem StoV.growN {e : TypeId} (hE : 40 ≠ e) (hO : 128 ≠ e) {w w' : World} {B C S R sz n : Nat} {v a a' : Value} {rs : Rs} {s : Sto} {xs : List Value} (h : StoV w B S R v rs s) (ho : w.ownsRow C e sz a n xs) (g : Grow C a w a' w') (hs : Offs S R a) : StoV w' B S R v rs s ∧ Offs S R a' := by
  have hSl := h.blk.lt
  have hRl := h.rng.blk.lt
  refine ⟨⟨h.blk.grwn g.by_ hs.1, ⟨h.rng.blk.grwn g.by_ hs.2, h.rng.own.kept g.by_ (own_apart hO h.rng.own ho), h.rng.ok, h.rng.ones, h.rng.ne, h.rng.le⟩, h.most, h.kept.mono ?_, h.ne, h.nev, h.le, h.num⟩, ?_⟩
  · rintro p s ⟨ao, n, c, rfl, h1, h2⟩
    exact ⟨ao, n, c, rfl, World.ownsRow.kept h1 g.by_ (own_apart hE h1 ho), h2⟩
  · rcases g.blk with e | e
    · unfold Offs; rw [e]; exact hs
    · unfold Offs; rw [e]
      exact ⟨fun h' => by injection h' with h'; omega, fun h' => by injection h' with h'; omega⟩
theorem own_chs {e : TypeId} (hO : e ≠ 128) {w w' : World} {B C S R sz n : Nat} {v v' a : Value} {rs : Rs} {s : Sto} {xs : List Value} (ho : w.ownsRow C e sz a n xs) (h : StoV w B S R v rs s) (hs : Offs S R a) (k : Chs B S R v v' w w') : w'.ownsRow C e sz a n xs := by
  refine ⟨ho.1, ?_⟩
  have hap := own_apart hO ho h.rng.own
  rcases ho.2 with hn | ⟨g, cap, cur, hv', hB, hg, rest⟩
  · exact Or.inl hn
  · have hgl : g < w.heap.size := (Array.getElem?_eq_some_iff.1 hg).1
    subst hv'
    refine Or.inr ⟨g, cap, cur, rfl, hB, (k.block g hgl (fun e => hs.1 (by rw [← e]; rfl)) (fun e => hs.2 (by rw [← e]; rfl)) (fun e => ?_)).trans hg, rest⟩
    rcases hap with h' | h'
    · cases h'
    · exact h' (by rw [← e]; rfl)
/-- Snapshots as cells: tick, time, the value of the entities. -/
abbrev Tri := Int × Int × Value
def snC (L : List Tri) : List Value := L.flatMap fun p => [.int .i64 p.1, .int .i64 p.2.1, p.2.2]
theorem snC_len : ∀ L : List Tri, (snC L).length = L.length * 3
  | [] => rfl
  | p :: L => by
    show ([.int .i64 p.1, .int .i64 p.2.1, p.2.2] ++ snC L).length = _
    rw [List.length_append, snC_len L]; simp; omega
theorem snC_app (L M : List Tri) : snC (L ++ M) = snC L ++ snC M := by unfold snC; rw [List.flatMap_append]
theorem snC_at : ∀ {L : List Tri} {i : Nat} (h : i < L.length), (snC L)[i * 3]? = some (.int .i64 L[i].1) ∧ (snC L)[i * 3 + 1]? = some (.int .i64 L[i].2.1) ∧ (snC L)[i * 3 + 2]? = some L[i].2.2
  | p :: L, 0, _ => ⟨rfl, rfl, rfl⟩
  | p :: L, i + 1, h => by
    have e : snC (p :: L) = [.int .i64 p.1, .int .i64 p.2.1, p.2.2] ++ snC L := rfl
    obtain ⟨a, b, c⟩ := snC_at (L := L) (i := i) (by simpa using h)
    rw [e, List.getElem?_append_right (by simp; omega), List.getElem?_append_right (by simp; omega), List.getElem?_append_right (by simp; omega)]
    simp only [List.length_cons, List.length_nil, List.getElem_cons_succ]
    rw [show (i + 1) * 3 - 3 = i * 3 by omega, show (i + 1) * 3 + 1 - 3 = i * 3 + 1 by omega, show (i + 1) * 3 + 2 - 3 = i * 3 + 2 by omega]
    exact ⟨a, b, c⟩
/-- A value that a call owns, of these snapshots. -/
def OwnS (w : World) (B : Nat) (v : Value) (L : List Tri) : Prop := w.ownsRow B 24 3 v L.length (snC L)
theorem OwnS.nil (w : World) (B : Nat) : OwnS w B (.slice none 0 0) [] := World.ownsRow_nil w B _ _
theorem OwnS.below {w w' : World} {B : Nat} {v : Value} {L : List Tri} (h : OwnS w B v L) (hb : Below w.heap.size w w') : OwnS w' B v L := by
  refine ⟨h.1, ?_⟩
  rcases h.2 with hn | ⟨g, cap, cur, hv, hB, hg, rest⟩
  · exact Or.inl hn
  · exact Or.inr ⟨g, cap, cur, hv, hB, (hb.block g (Array.getElem?_eq_some_iff.1 hg).1).trans hg, rest⟩
theorem OwnS.form {w : World} {B : Nat} {v : Value} {L : List Tri} (h : OwnS w B v L) : ∃ ao cap, v = .slice ao L.length cap ∧ L.length ≤ cap ∧ cap ≤ 9223372036854775807 ∧ (L ≠ [] → ∃ g, ao = some ⟨g, 0, none⟩ ∧ g < w.heap.size ∧ ∀ i (hi : i < L.length), w.cell? ⟨g, i * 3, none⟩ = some (.int .i64 L[i].1) ∧ w.cell? ⟨g, i * 3 + 1, none⟩ = some (.int .i64 L[i].2.1) ∧ w.cell? ⟨g, i * 3 + 2, none⟩ = some L[i].2.2) := by
  rcases h.2 with ⟨rfl, h0⟩ | ⟨g, cap, cur, hv, hb, hg, hc, hm, hs, ht⟩
  · exact ⟨none, 0, by rw [h0], by omega, by omega, fun hne => absurd (List.eq_nil_of_length_eq_zero h0) hne⟩
  · refine ⟨_, cap, hv, hc, hm, fun _ => ⟨g, rfl, (Array.getElem?_eq_some_iff.1 hg).1, fun i hi => ?_⟩⟩
    have hat : ∀ (j : Nat) (u : Value), (snC L)[j]? = some u → w.cell? ⟨g, j, none⟩ = some u := fun j u hj => by
      have hj' : j < L.length * 3 := by have := (List.getElem?_eq_some_iff.1 hj).1; rwa [snC_len] at this
      rw [row_cell hg, ← hj, ← ht, List.getElem?_take, if_pos hj']
      simp
    obtain ⟨a, b, c⟩ := snC_at hi
    exact ⟨hat _ _ a, hat _ _ b, hat _ _ c⟩
theorem infoSn : (Tryz.prog.info? 24).map (fun i => (i.zero, i.size, i.bytes)) = some (some (.agg #[.int .i64 0, .int .i64 0, .slice none 0 0]), 3, 40) := by kernel_rfl
theorem growS_wp {w : World} {ops : Array Oper} {rest : List Oper} {o : Oper} {a : Act} {Q : Exit → Act → World → Prop} (hgd : o.guard = none) (s x : Operand)
    (ho : o.op = .call { callee := .builtin .append, args := #[s, x], argTypes := #[61, 61] })
    (B : Nat) (v : Value) (L : List Tri) (hs : a.eval s = v) (hown : OwnS w B v L) (g0 : Nat) (p : Tri) (hp : p.2.2.oneCell' = true) (hx : a.eval x = .slice (some ⟨g0, 0, none⟩) 1 1)
    (hr : ∀ j u, ([.int .i64 p.1, .int .i64 p.2.1, p.2.2] : List Value)[j]? = some u → w.cell? ⟨g0, j, none⟩ = some u) (hlen : L.length ≤ 1000000) (hB : B ≤ w.heap.size)
    (h : ∀ v' w', OwnS w' B v' (L ++ [p]) → Grow B v w v' w' → wpList Tryz.prog ops Q rest (a.put o.dst v') w') : wpList Tryz.prog ops Q (o :: rest) a w := by
  refine wpList_plain hgd fun K hK => ?_
  obtain ⟨i0, hi, hz0, hz1, hz2⟩ := info_parts infoSn
  refine wp_append_lies w s x 61 ho B 24 i0 (.agg #[.int .i64 0, .int .i64 0, .slice none 0 0]) 3 40 Tryz.underlying61 hi hz0 hz1 hz2 rfl (by decide) v L.length (snC L) hs hown ⟨g0, 0, none⟩ 1 1 [.int .i64 p.1, .int .i64 p.2.1, p.2.2] hx rfl (fun j u hu => ?_) (fun u hu => ?_) (by omega) (by unfold maxLen; omega) (by omega) hB w.heap.size rfl ?_
  · rw [Addr.add_lit, Nat.zero_add]; exact hr j u hu
  · simp only [List.mem_cons, List.not_mem_nil, or_false] at hu
    rcases hu with rfl | rfl | rfl
    · rfl
    · rfl
    · exact hp
  intro g cap' w' hown' hgrow hor hlt
  refine hK _ _ (h _ w' ?_ ⟨(Below.refl B w).grown hgrow hB (fun k hk => (World.ownsRow.lt hown k hk).1), hgrow, ?_⟩)
  · unfold OwnS
    rw [List.length_append, snC_app]
    exact hown'
  · rcases hor with e | e
    · exact Or.inl e.symm
    · right; rw [e]; rfl

/-- A value that reads as these snapshots: number i has the tick T i, the time M i, the entities' value U i, of N i entities A i. -/
structure Sns where
  T : Nat → Int
  M : Nat → Int
  U : Nat → Value
  N : Nat → Nat
  A : Nat → Nat → En
def RdSn (w : World) (v : Value) (n : Nat) (Z : Sns) : Prop :=
  ∃ ao cap, v = .slice ao n cap ∧ n ≤ cap ∧ cap ≤ 9223372036854775807 ∧ (n = 0 ∨ ∃ b o, ao = some ⟨b, o, none⟩ ∧
    ∀ i, i < n → w.cell? ⟨b, o + i * 3, none⟩ = some (.int .i64 (Z.T i)) ∧ w.cell? ⟨b, o + i * 3 + 1, none⟩ = some (.int .i64 (Z.M i)) ∧ w.cell? ⟨b, o + i * 3 + 2, none⟩ = some (Z.U i) ∧ RdE w (Z.U i) (Z.N i) (Z.A i))
/-- A value that reads as these bools. -/
def RdBo (w : World) (v : Value) (n : Nat) (F : Nat → Bool) : Prop :=
  ∃ ao cap, v = .slice ao n cap ∧ n ≤ cap ∧ cap ≤ 9223372036854775807 ∧ (n = 0 ∨ ∃ b o, ao = some ⟨b, o, none⟩ ∧ ∀ i, i < n → w.cell? ⟨b, o + i, none⟩ = some (.bool (F i)))
end Go.Proofs.YtokegpajjicehaaGreat

namespace Go.Proofs.YtokegpajjicehaaGreat
open Go.RowKit
set_option linter.unusedVariables false
set_option maxRecDepth 20000

/-- Bytes of this head and these records tell a store the snapshot x behind these. -/
structure Says' (M : Nat) (own : List Sn) (x : Sn) (G : Gm) (R : List Rc) : Prop where
  ok : G.ok
  recs : ∀ i, i < R.length → (atR R i).ok
  told : ∀ (s : Sto) (l : List Int), s.M = M → Tel M own s.L → rgE l = 0 → rgG l = G → rgL l = R → tkE s l = 0 ∧ tkT s l = x.t ∧ Tel M (own ++ [x]) (accS s l).L
theorem box_apart {e t : TypeId} (he : e ≠ t) {w : World} {B sz n g : Nat} {a : Value} {xs : List Value} {cs : Array Value} (ho : w.ownsRow B e sz a n xs) (hg : w.heap[g]? = some (.cells cs t (0, 0))) : a.ownBlock = none ∨ a.ownBlock ≠ some g := by
  cases hq : a.ownBlock with
  | none => exact Or.inl rfl
  | some q =>
    right
    intro e'
    injection e' with e'
    subst e'
    obtain ⟨c, hc⟩ := own_type ho hq
    rw [hg] at hc
    injection hc with hc
    injection hc with _ h2 _
    exact he h2.symm
theorem StoV.box {t : TypeId} (hE : 40 ≠ t) (hO : 128 ≠ t) {w w' : World} {B S R g : Nat} {v : Value} {rs : Rs} {s : Sto} {cs : Array Value} (h : StoV w B S R v rs s) (hg : w.heap[g]? = some (.cells cs t (0, 0))) (hS : g ≠ S) (hR : g ≠ R) (k : w.grownBy w' (some g)) : StoV w' B S R v rs s := by
  refine ⟨h.blk.grwn k (fun e => by injection e with e; exact hS e.symm), ⟨h.rng.blk.grwn k (fun e => by injection e with e; exact hR e.symm), h.rng.own.kept k (box_apart hO h.rng.own hg), h.rng.ok, h.rng.ones, h.rng.ne, h.rng.le⟩, h.most, h.kept.mono ?_, h.ne, h.nev, h.le, h.num⟩
  rintro p s ⟨ao, n, c, rfl, h1, h2⟩
  exact ⟨ao, n, c, rfl, World.ownsRow.kept h1 k (box_apart hE h1 hg), h2⟩
def triZ (Z : Sns) (k : Nat) : Tri := (Z.T k, Z.M k, Z.U k)
def snZ (Z : Sns) (k : Nat) : Sn := ⟨Z.T k, Z.M k, preE (Z.A k) (Z.N k)⟩
/-- What is kept at a place is what was told there. -/
theorem Tel.at {M : Nat} {own L : List Sn} (h : Tel M own L) {i : Nat} (hi : i < L.length) : own[own.length - L.length + i]? = some (atS L i) := by
  have hl := h.len
  have e : own.length - M = own.length - L.length := by omega
  have h2 : L[i]? = own[own.length - L.length + i]? := by
    conv => lhs; rw [h.kept]
    rw [List.getElem?_drop, e]
  rw [← h2]
  unfold atS
  rw [List.getD_eq_getElem?_getD, List.getElem?_eq_getElem hi]; rfl
end Go.Proofs.YtokegpajjicehaaGreat

namespace Go.Proofs.YtokegpajjicehaaGreat
open Go.RowKit
set_option linter.unusedVariables false
set_option maxRecDepth 20000

theorem asc_chk : ∀ {R : List Rc} {a : Int}, asc a R → ∀ r ∈ R, chk r = 0
  | [], _, _, r, hr => by cases hr
  | x :: R, a, h, r, hr => by
    rcases List.mem_cons.1 hr with rfl | hr
    · exact h.2.2.1
    · exact asc_chk h.2.2.2 r hr
/-- What Apply makes may be. -/
theorem apl_sn {t m : Int} {L : List En} {g : Gm} {A : Nat → Rc} {n : Nat} (h : aplE t m L g A n = 0) : snE g.t g.m (aplL t m L g A n) = 0 := by
  have hL : aplL t m L g A n = (apl (wasL g.b L) (pre A n)).getD [] := by unfold aplL; rw [if_pos h]
  unfold aplE at h
  split at h
  · rename_i h0
    split at h
    · rename_i h1; exact absurd h h1.2
    · rename_i h1
      split at h
      · exact absurd h (by decide)
      · split at h
        · exact absurd h (by decide)
        · rename_i M hM
          have hlen : ¬ 64 < M.length := by
            intro hq; rw [if_pos hq] at h; exact absurd h (by decide)
          rw [hM] at hL
          have hL' : aplL t m L g A n = M := hL
          rw [hL']
          have ha := gm_asc h0
          have hw : rise (-1) (wasL g.b L) := by
            unfold wasL
            split
            · trivial
            · rename_i hb
              have : snE t m L = 0 := by
                rcases Classical.em (snE t m L = 0) with q | q
                · exact q
                · exact absurd ⟨hb, q⟩ h1
              exact (sn_ok this).2.2.2.2
          have hr : rise (-1) M := all_rise (pre A n) hw (asc_chk ha) (by rw [← apl_all _ _ (-1) hw ha]; exact hM)
          obtain ⟨q1, q2, q3, q4, _⟩ := hed_ok (gm_head h0)
          unfold snE
          rw [if_neg, if_neg hlen]
          · exact (ids_rise M (-1) (by omega)).2 hr
          · unfold timB
            simp
            omega
  · rename_i h0; exact absurd h h0
/-- What is kept may be; times rise. -/
structure Gd (L : List Sn) : Prop where
  time : L.Pairwise fun a b => a.m < b.m
  good : ∀ y ∈ L, snE y.t y.m y.E = 0
theorem Gd.nil : Gd [] := ⟨List.Pairwise.nil, fun y hy => by cases hy⟩
theorem stp_all {M : Nat} {L : List Sn} {g : Gm} {R : List Rc} (h : stpE M L g R = 0) : tkA L g R = 0 ∧ lateB L (tkX L g R) = false := by
  unfold stpE at h
  split at h
  · exact absurd h (by decide)
  · split at h
    · exact absurd h (by decide)
    · split at h
      · exact absurd h (by decide)
      · split at h
        · rename_i q; exact absurd h q
        · rename_i q
          split at h
          · exact absurd h (by decide)
          · rename_i q2
            exact ⟨by simpa using q, by simpa using q2⟩
theorem atS_get {L : List Sn} {i : Nat} (h : i < L.length) : atS L i = L[i] := by
  unfold atS; rw [List.getD_eq_getElem?_getD, List.getElem?_eq_getElem h]; rfl
theorem laid_time {L : List Sn} {x : Sn} (h : L.Pairwise fun a b => a.m < b.m) (hl : lateB L x = false) : (laidS L x).Pairwise fun a b => a.m < b.m := by
  have hu := untS_le L x.t
  unfold lateB at hl
  simp at hl
  obtain ⟨u, hue⟩ : ∃ u, untS L x.t = u := ⟨_, rfl⟩
  unfold laidS
  rw [hue] at hl hu ⊢
  have hlo : ∀ a ∈ L.take u, a.m < x.m := fun a ha => by
    obtain ⟨i, hi, rfl⟩ := List.getElem_of_mem ha
    rw [List.length_take] at hi
    rw [List.getElem_take]
    have h1 := hl.1 (by omega)
    rw [atS_get (by omega)] at h1
    rcases Nat.lt_or_eq_of_le (show i ≤ u - 1 by omega) with q | q
    · have := List.pairwise_iff_getElem.1 h i (u - 1) (by omega) (by omega) q
      omega
    · subst q; omega
  have hhi : ∀ b ∈ L.drop u, x.m < b.m := fun b hb => by
    obtain ⟨i, hi, rfl⟩ := List.getElem_of_mem hb
    rw [List.length_drop] at hi
    rw [List.getElem_drop]
    have h1 := hl.2 (by omega)
    rw [atS_get (by omega)] at h1
    rcases Nat.eq_zero_or_pos i with q | q
    · subst q; simpa using h1
    · have := List.pairwise_iff_getElem.1 h u (u + i) (by omega) (by omega) (by omega)
      omega
  have hsplit : (L.take u ++ L.drop u).Pairwise fun a b => a.m < b.m := by rw [List.take_append_drop]; exact h
  obtain ⟨p1, p2, p3⟩ := List.pairwise_append.1 hsplit
  refine List.pairwise_append.2 ⟨p1, List.pairwise_cons.2 ⟨hhi, p2⟩, fun a ha b hb => ?_⟩
  rcases List.mem_cons.1 hb with rfl | hb
  · exact hlo a ha
  · exact p3 a ha b hb
theorem gd_tk {s : Sto} {l : List Int} (h : Gd s.L) : Gd (tkL s l) := by
  by_cases h0 : tkE s l = 0
  · have e : tkL s l = keepS s.M s.L (tkX s.L (rgG l) (rgL l)) := if_pos h0
    have hr : rgE l = 0 := by
      unfold tkE at h0
      split at h0
      · assumption
      · exact h0
    have hs : stpE s.M s.L (rgG l) (rgL l) = 0 := by unfold tkE at h0; rw [if_pos hr] at h0; exact h0
    obtain ⟨a, b⟩ := stp_all hs
    have hx : snE (tkX s.L (rgG l) (rgL l)).t (tkX s.L (rgG l) (rgL l)).m (tkX s.L (rgG l) (rgL l)).E = 0 := apl_sn a
    have hlt := laid_time h.time b
    have hgl : ∀ y ∈ laidS s.L (tkX s.L (rgG l) (rgL l)), snE y.t y.m y.E = 0 := fun y hy => by
      rcases mem_laidS.1 hy with rfl | hy
      · exact hx
      · exact h.good y hy
    rw [e]
    unfold keepS
    split
    · exact ⟨hlt, hgl⟩
    · exact ⟨hlt.tail, fun y hy => hgl y (List.mem_of_mem_tail hy)⟩
  · have e : tkL s l = s.L := if_neg h0
    rw [e]; exact h
/-- Neighbours. -/
theorem gd_next {L : List Sn} (hr : RiseT L) (h : Gd L) {i : Nat} (hi : i + 1 < L.length) : (atS L i).t < (atS L (i + 1)).t ∧ (atS L i).m < (atS L (i + 1)).m := by
  rw [atS_get (by omega), atS_get hi]
  exact ⟨List.pairwise_iff_getElem.1 hr i (i + 1) (by omega) hi (by omega), List.pairwise_iff_getElem.1 h.time i (i + 1) (by omega) hi (by omega)⟩
end Go.Proofs.YtokegpajjicehaaGreat

namespace Go.Proofs.YtokegpajjicehaaGreat
open Go.RowKit
set_option linter.unusedVariables false
set_option maxRecDepth 20000

/-- Row a holds copies of the first snapshots that are kept. -/
structure Was (w : World) (H S : Nat) (L : List Sn) (a : Value) (T : List Tri) : Prop where
  row : OwnS w H a T
  off : Offs S H a
  len : T.length ≤ L.length
  at_ : ∀ j (hj : j < T.length), T[j].1 = (atS L j).t ∧ T[j].2.1 = (atS L j).m ∧ OwnE w H T[j].2.2 (atS L j).E ∧ Offs S H T[j].2.2
theorem Was.nil (w : World) (H S : Nat) (L : List Sn) : Was w H S L (.slice none 0 0) [] :=
  ⟨OwnS.nil _ _, ⟨by simp [Value.ownBlock], by simp [Value.ownBlock]⟩, by simp, fun j hj => by simp at hj⟩
theorem Was.below {w w' : World} {H S : Nat} {L : List Sn} {a : Value} {T : List Tri} (h : Was w H S L a T) (b : Below w.heap.size w w') : Was w' H S L a T :=
  ⟨h.row.below b, h.off, h.len, fun j hj => by obtain ⟨p, q, r, s⟩ := h.at_ j hj; exact ⟨p, q, r.below b, s⟩⟩
theorem Was.drew {w : World} {H S : Nat} {L : List Sn} {a : Value} {T : List Tri} (h : Was w H S L a T) : Was w.drew H S L a T :=
  ⟨h.row, h.off, h.len, fun j hj => h.at_ j hj⟩
theorem StoV.drew {w : World} {B S R : Nat} {v : Value} {rs : Rs} {s : Sto} (h : StoV w B S R v rs s) : StoV w.drew B S R v rs s := h.drewN 1
theorem Was.chs {w w' : World} {B H S : Nat} {L : List Sn} {a v v' : Value} {T : List Tri} {rs : Rs} {s : Sto} (h : Was w H S L a T) (hv : StoV w B S H v rs s) (k : Chs B S H v v' w w') : Was w' H S L a T :=
  ⟨own_chs (by decide) h.row hv h.off k, h.off, h.len, fun j hj => by
    obtain ⟨p, q, r, o⟩ := h.at_ j hj
    exact ⟨p, q, own_chs (by decide) r hv o k, o⟩⟩
theorem Was.grow {w w' : World} {H S : Nat} {L : List Sn} {a a' : Value} {T : List Tri} (h : Was w H S L a T) (hS : S < w.heap.size) (hH : H < w.heap.size) (p : Tri) (hn : T.length < L.length) (p0 : p.1 = (atS L T.length).t) (p1 : p.2.1 = (atS L T.length).m) (p2 : OwnE w H p.2.2 (atS L T.length).E) (p3 : Offs S H p.2.2) (ho : OwnS w' H a' (T ++ [p])) (g : Grow H a w a' w') : Was w' H S L a' (T ++ [p]) := by
  refine ⟨ho, ?_, by rw [List.length_append]; simp; omega, fun j hj => ?_⟩
  · rcases g.blk with e | e
    · unfold Offs; rw [e]; exact h.off
    · unfold Offs; rw [e]
      exact ⟨fun h' => by injection h' with h'; omega, fun h' => by injection h' with h'; omega⟩
  · have hk : ∀ {u : Value} {E : List En}, OwnE w H u E → OwnE w' H u E := fun r => World.ownsRow.kept r g.by_ (own_apart (by decide) r h.row)
    by_cases hlt : j < T.length
    · rw [List.getElem_append_left hlt]
      obtain ⟨a, b, c, d⟩ := h.at_ j hlt
      exact ⟨a, b, hk c, d⟩
    · have hj' : j = T.length := by rw [List.length_append] at hj; simp at hj; omega
      subst hj'
      rw [List.getElem_append_right (Nat.le_refl _)]
      simp only [Nat.sub_self, List.getElem_cons_zero]
      exact ⟨p0, p1, hk p2, p3⟩
/-- A block of the call's own is none of the store's. -/
theorem offs_new {w : World} {H S : Nat} {u : Value} {E : List En} {k : Nat} (h : OwnE w k u E) (hS : S < k) (hH : H < k) : Offs S H u :=
  ⟨fun e => by have := (h.lt S e.symm).1; omega, fun e => by have := (h.lt H e.symm).1; omega⟩
end Go.Proofs.YtokegpajjicehaaGreat
