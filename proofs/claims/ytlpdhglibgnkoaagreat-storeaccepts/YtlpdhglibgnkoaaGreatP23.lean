/-
  Texts Dl9, Dl10, Dl11, Dl12 in one.
-/
import Derived.RangeFuncNested
import Derived.RangeFuncBound
import Derived.RangeFuncCalls
import Derived.RangeFuncLeaves
import Derived.RangeFuncBox
import Derived.Shelf.Abstract
import Derived.Shelf.RegionOpen
import Derived.WalkKit
import Derived.OwnWalkIn
import Derived.TacticsInMore
import Derived.LoopNIn
import Derived.LoopIn
import Derived.Maps.OwnIn
import Derived.Maps.AppendAt
import Derived.Sort.MapsRangeIn
import Derived.RangeFuncSeq
import Derived.Test.YtlpdhglibgnkoaaGreatP22
namespace Go.Proofs.YtlpdhglibgnkoaaGreat
open Go.RowKit Go.Shelf
set_option linter.unusedVariables false
set_option maxRecDepth 100000
attribute [local go_sem] Oper.semAt_some


theorem RunE.of_walks {w w' : World} {b r : Nat} {M got : List En} {cnt : Nat} (h : RunE w b r M got cnt) (hk : KeepsWalks w w') : RunE w' b r M got cnt := by
  obtain ⟨D, left, h1, h2⟩ := h
  exact ⟨D, left, h1.of_walks hk, h2⟩
theorem RunE.iter {w : World} {b r : Nat} {M got : List En} {cnt : Nat} (h : RunE w b r M got cnt) : ∃ o : Obj, w.heap[r]? = some o ∧ o.isWalk = true := by
  obtain ⟨D, left, h1, h2⟩ := h
  exact h1.iter_walk
section
variable {F : Fence} {n : Nat} {w : World} {ops : Array Oper} {rest : List Oper} {o : Oper} {a : Act} {Q : Exit → Act → World → Prop}
theorem rangeE_in (hg : o.guard = none) (m : Operand) (hop : o.op = Op.range 104 m) (b : Nat) (M : List En) (hm : a.eval m = .map (some b)) (h : MapE w b M)
    (hK : ∀ w', RunE w' b w.heap.size M [] M.length → w.grownBy w' none → w'.heap.size = w.heap.size + 1 → wpListIn F n Tryz.prog ops Q rest (a.put o.dst (.pointer (some ⟨w.heap.size, 0, none⟩))) w') : wpListIn F n Tryz.prog ops Q (o :: rest) a w := by
  obtain ⟨D, h1, h2, h3⟩ := h
  refine wpListIn_range_own _ hg m 104 hop 3 69 law_int Tryz.underlying104 RV b M.length D hm h1 ?_
  intro w' hr hg' hs
  exact hK w' (mapE_start h2 h3 hr) hg' hs
theorem nextE_in (hg : o.guard = none) (it : Operand) (hop : o.op = Op.next it false) (b r : Nat) (M got : List En) (cnt : Nat) (hit : a.eval it = .pointer (some ⟨r, 0, none⟩)) (h : RunE w b r M got cnt)
    (hDone : got.Perm M → wpListIn F n Tryz.prog ops Q rest (a.put o.dst (.tuple #[.bool false])) w)
    (hMore : ∀ (e : En) (w' : World) (cnt' : Nat), e ∈ M → RunE w' b r M (got ++ [e]) cnt' → cnt' < cnt → w.grownBy w' (some r) → w'.heap.size = w.heap.size →
      (Instr.entry (.pointer (some ⟨r, 0, none⟩))).run Tryz.prog w' = .ok (.tuple #[.int .i64 e.i, entV e]) w' → wpListIn F n Tryz.prog ops Q rest (a.put o.dst (.tuple #[.bool true, .int .i64 e.i, entV e])) w') : wpListIn F n Tryz.prog ops Q (o :: rest) a w := by
  obtain ⟨D, left, h1, h2, h3, h4, h5⟩ := h
  refine wpListIn_next_ranges _ hg it hop 3 law_int RV (Value.int .i64) id (fun key kl hkey => by obtain ⟨x, rfl, _⟩ := Maps.keyOf_int_inv Tryz.underlying3 hkey; exact ⟨x, rfl⟩) (fun v y hv => ⟨v, rfl⟩) b r M.length D left cnt hit h1 (fun hc hl => hDone (RunE.done (w := w) (b := b) (r := r) (cnt := cnt) (D := D) h2 h4 h5 hl)) ?_
  intro x v kl y w' cnt' hkey hl hv hat hr hlt hg' hs hen
  obtain ⟨x', ex, rfl, hwx⟩ := Maps.keyOf_int_inv Tryz.underlying3 hkey
  cases ex
  obtain ⟨e, he, rfl, ev, hR⟩ := RunE.step (cnt := cnt) (w := w) h2 h3 h4 h5 (wf_i64 hwx) hl hv hat hr
  have ev' : v = entV e := ev
  subst ev'
  exact hMore e w' cnt' he hR hlt hg' hs hen
end
abbrev yE (e : En) : Array Value := #[entV e]
theorem dl_values1 (F : Fence) (n : Nat) (h8 : F.fn 115) (hro : F.round = none) (hn : 1 ≤ n) (l Bm b : Nat) (M : List En) (J Jx : List En → World → Prop)
    (hY : ∀ pre x W, J pre W → pre.length < M.length → YieldAt F (n - 1) Tryz.prog l (yE x) W fun e W' =>
      (e = .returned (.bool true) ∧ J (pre ++ [x]) W' ∧ KeepsWalks W W') ∨ (e = .returned (.bool false) ∧ Jx (pre ++ [x]) W'))
    (W : World) (hJ : AbidesFrom W.heap.size J) (hm : W.cell? ⟨Bm, 0, none⟩ = some (.map (some b))) (hown : MapE W b M) (h0 : J [] W) :
    CallsIn F n Tryz.prog 115 #[.func (.yield l) #[] #[], .pointer (some ⟨Bm, 0, none⟩)] W fun e W' => (∃ v, e = .returned v) ∧ ((∃ xs, xs.Perm M ∧ J xs W') ∨ (∃ pre, True ∧ Jx pre W')) := by
  refine callsIn_of_wp Tryz.func115 rfl h8 ?_ hro
  simp only [Tryz.ntmps115, List.size_toArray, List.length_cons, List.length_nil, Nat.reduceAdd, Nat.reduceSub, Array.replicate_succ, Array.replicate_zero, List.push_toArray, List.append_toArray, List.nil_append, List.cons_append]
  gi_wp2_with (first
    | (gi_at_range; refine rangeE_in rfl _ rfl b M rfl (by exact hown) ?_; intro w0 hrg0 hg0 hs0)
    | gi_in)
  go_frame
  gi_loopw [4] (fun _ wr => ∃ (cnt : Nat) (got : List En), RunE wr b W.heap.size M got cnt ∧ got.length + cnt ≤ M.length ∧ J got wr)
    (fun _ wr => wr.rangeLeft b W.heap.size)
  case atStart =>
    exact ⟨_, [], hrg0, by simp, hJ [] W w0 none h0 hg0 (fun r e => by cases e)⟩
  case round =>
    obtain ⟨cnt, got, hrg, hcs, hJs⟩ := hrel
    gi_wp2_with (first
      | (gi_at_next; refine nextE_in rfl _ rfl b W.heap.size M got cnt rfl (by exact hrg) ?_ ?_)
      | gi_in)
    · intro hp
      gi_wp2
      go_end0
      exact ⟨⟨_, rfl⟩, .inl ⟨got, hp, hJs⟩⟩
    · intro e w2 cnt2 he hrg2 hlt hg2 hs2 hen
      have hJ2 : J got w2 := hJ got wr w2 (some W.heap.size) hJs hg2 (fun r e => by cases e; exact ⟨Nat.le_refl _, hrg.iter⟩)
      have hJ3 : J got (w2.alloc (.cells #[.int .i64 e.i, .int .i64 e.p0, .int .i64 e.p1, .int .i64 e.p2, .int .i64 e.v0, .int .i64 e.v1, .int .i64 e.v2, .int .u16 e.a, .int .u8 e.g] 69)) := hJ got w2 _ none hJ2 (World.grownBy_alloc _ _ _) (fun r e => by cases e)
      obtain ⟨fn, tmps, assign, body, hy, hR⟩ := hY got e _ hJ3 (by omega)
      dsimp only [yE] at hy
      clear hs2
      gi_wp2
      refine hR.mono ?_
      have hrg2' := hrg2.kept (World.grownBy_alloc w2 (.cells #[.int .i64 e.i, .int .i64 e.p0, .int .i64 e.p1, .int .i64 e.p2, .int .i64 e.v0, .int .i64 e.v1, .int .i64 e.v2, .int .u16 e.a, .int .u8 e.g] 69) none) (by simp) (by simp)
      rintro e' W3 (⟨rfl, hJ4, hk3⟩ | ⟨rfl, hJx3⟩)
      · gi_wp2
        have hrg3 := hrg2'.of_walks hk3
        go_roundw
        case rel => exact ⟨cnt2, got ++ [e], hrg3, by rw [List.length_append, List.length_singleton]; omega, hJ4⟩
        case measure => rw [hrg3.left_eq, hrg.left_eq]; exact hlt
      · gi_wp2
        refine bodyPost_ret (results_none rfl _ _ _) rfl ?_
        exact ⟨⟨_, rfl⟩, .inr ⟨got ++ [e], trivial, hJx3⟩⟩
theorem dl_stops (F : Fence) (n : Nat) (h7 : F.fn 115) (hro : F.round = none) (hn : 1 ≤ n) (Bm b : Nat) (M : List En) (w : World) (hBm : Bm < w.heap.size)
    (hm : w.cell? ⟨Bm, 0, none⟩ = some (.map (some b))) (hown : MapE w b M) :
    SeqStopsK F n Tryz.prog 115 #[.pointer (some ⟨Bm, 0, none⟩)] yE KeepsWalks (fun xs => xs.Perm M) (fun _ => True) M.length w := fun l J Jx W hW hJ _ hY h0 =>
  dl_values1 F n h7 hro hn l Bm b M J Jx hY W hJ ((hW.cell (p := ⟨Bm, 0, none⟩) hBm).trans hm) (hown.below hW) h0
theorem dl_values (w : World) (b : Nat) : Calls Tryz.prog 85 #[.map (some b)] w fun e w' =>
    e = .returned (.func (.func 115) #[] #[.pointer (some ⟨w.heap.size, 0, none⟩)]) ∧ w' = w.alloc (.cells #[.map (some b)] 104) := by
  go_enter Tryz.func85, Tryz.ntmps85
  go_wp2_with fail
  go_ret
  exact ⟨rfl, rfl⟩
theorem new_ent (w : World) (x : En) : ∀ j u, (entC x)[j]? = some u → (w.alloc (.cells #[.int .i64 x.i, .int .i64 x.p0, .int .i64 x.p1, .int .i64 x.p2, .int .i64 x.v0, .int .i64 x.v1, .int .i64 x.v2, .int .u16 x.a, .int .u8 x.g] 69)).cell? ((⟨w.heap.size, 0, none⟩ : Addr).add j) = some u := fun j u h => by
  have B := Blk.new w #[.int .i64 x.i, .int .i64 x.p0, .int .i64 x.p1, .int .i64 x.p2, .int .i64 x.v0, .int .i64 x.v1, .int .i64 x.v2, .int .u16 x.a, .int .u8 x.g] 69 rfl
  have := B.cell j u (by simpa using h)
  rw [Addr.add_lit, Nat.zero_add]; exact this
theorem ne_types : (43 : Nat) ≠ 69 := by decide
theorem dl_append (F : Fence) (n : Nat) (hf : F.fn 140) (hro : F.round = none) (hn : 2 ≤ n) (gf : Nat) (lb : Array Value) (hFg : F.fn gf) (eg : ∀ args w, (callFunc gf args).run Tryz.prog w = .ok (.enter gf args) w)
    (S Sp : List En → Prop) (N : Nat) (hN : N ≤ 1000000) (w : World) (hseq : SeqStopsK F (n - 1) Tryz.prog gf lb yE KeepsWalks S Sp N w) :
    CallsIn F n Tryz.prog 140 #[.slice none 0 0, .func (.func gf) #[] lb] w fun e w' => ∃ v L, e = .returned v ∧ S L ∧ OwnE w' w.heap.size v L ∧ Below w.heap.size w w' := by
  have h1 : 1 ≤ n := by omega
  obtain ⟨i0, hi, hz0, hz1, hz2⟩ := info_parts infoE
  refine callsIn_of_wp_marks Tryz.func140 rfl hf ?_ hro
  simp only [Tryz.ntmps140, List.size_toArray, List.length_cons, List.length_nil, Nat.reduceAdd, Nat.reduceSub, Array.replicate_succ, Array.replicate_zero, List.push_toArray, List.append_toArray, List.nil_append, List.cons_append]
  gi_wp2
  have bO := Boxed.new w 43 (.slice none 0 0)
  have hB0 : Below w.heap.size w (w.alloc (.cells #[.slice none 0 0] 43)) := (Below.refl _ w).alloc (Nat.le_refl _) _
  have hsz : (w.alloc (.cells #[.slice none 0 0] 43)).heap.size = w.heap.size + 1 := by simp
  obtain ⟨W0, hW0⟩ : ∃ W0, w.alloc (.cells #[.slice none 0 0] 43) = W0 := ⟨_, rfl⟩
  rw [hW0] at bO hB0 hsz ⊢
  clear hW0
  refine wpIn_rangeFunc_ownH hro h1 (gf := gf) (lb := lb) rfl hFg eg hseq walksK_t walksK_b hB0 (fun _ => rfl)
    (fun pre W => (∃ v, Boxed W w.heap.size 43 v ∧ W.ownsRow w.heap.size 69 9 v pre.length (ents pre) ∧ True) ∧ Below w.heap.size w W)
    (fun _ _ _ => False)
    (OwnFrom.and (Own.from (holdsRow_own w.heap.size w.heap.size 43 69 9 (fun pre => List.length pre) (fun pre => ents pre) (fun _ _ => True)) _) (ownFrom_below (Nat.le_refl _) (by omega)))
    (fun _ _ _ _ _ hs _ _ => hs)
    ⟨⟨_, bO, World.ownsRow_nil _ _ _ _, trivial⟩, hB0⟩
    (fun x a' W => ∃ Bx, w.heap.size < Bx ∧ W.heap[Bx]? = some (.cells #[.int .i64 x.i, .int .i64 x.p0, .int .i64 x.p1, .int .i64 x.p2, .int .i64 x.v0, .int .i64 x.v1, .int .i64 x.v2, .int .u16 x.a, .int .u8 x.g] 69 (0, 0)) ∧
      a' = { tmps := #[.slice none 0 0, .func (.func gf) #[] lb, .pointer (some ⟨w.heap.size, 0, none⟩), undef, .slice none 0 0, .pointer (some ⟨Bx, 0, none⟩), .func (.func gf) #[] lb, entV x, undef, undef, undef, undef, undef], defers := [] })
    (fun x a' _ X Y row hs hg hr => by
      obtain ⟨Bx, h1, h2, h3⟩ := hs
      refine ⟨Bx, h1, (hg.block Bx (Array.getElem?_eq_some_iff.1 h2).1 (fun e => ?_)).trans h2, h3⟩
      obtain ⟨_, o, ho, hc⟩ := hr Bx e.symm
      rw [h2] at ho; cases ho; cases hc)
    ?assign ?body ?done ?stop
  case assign =>
    rintro l pre x W K ⟨⟨v, hv, hrow, _⟩, hB1⟩ hK
    gi_wp2
    exact hK _ _ ((KeepsOthers.alloc _ _).from _) (KeepsWalks.alloc _ _) ⟨⟨v, hv.alloc _, hrow.alloc _, trivial⟩, hB1.alloc hB1.size _⟩ ⟨W.heap.size, hv.lt, World.alloc_heap_new W _, rfl⟩
  case body =>
    rintro l pre x a' W hl ⟨r, hr⟩ ⟨⟨v, hv, hrow, _⟩, hB⟩ ⟨Bx, hBx, bX, rfl⟩ hlt
    have hc := hv.cell
    have xs : ∀ (j : Nat) u, (entC x)[j]? = some u → W.cell? ⟨Bx, j, none⟩ = some u := fun j u h => by
      simp only [World.cell?, bX]
      simpa using h
    have x0 := xs 0 _ rfl
    have x1 := xs 1 _ rfl
    have x2 := xs 2 _ rfl
    have x3 := xs 3 _ rfl
    have x4 := xs 4 _ rfl
    have x5 := xs 5 _ rfl
    have x6 := xs 6 _ rfl
    have x7 := xs 7 _ rfl
    have x8 := xs 8 _ rfl
    have lX : Bx < W.heap.size := (Array.getElem?_eq_some_iff.1 bX).1
    clear xs bX
    gi_wp2_with (gi_at_builtin; refine wpListIn_append_own _ rfl _ _ 43 rfl w.heap.size 69 i0 (entV noEnt) 9 64 Tryz.underlying43 hi hz0 hz1 hz2 rfl (by decide) _ _ _ rfl (hrow.alloc _) ⟨W.heap.size, 0, none⟩ 1 1 (entC x) rfl rfl (new_ent W x) (entC_one x) (by unfold maxLen; omega) (by omega) (by have := hB.size; simp; omega) ?_; intro v' w1 hown' hgrow _; obtain ⟨g', cap', rfl⟩ := ownsRow_succ hown'; obtain ⟨hv1, hv2, hr2, hk2, hb2⟩ := hv.appended ne_types hrow hB.size (Nat.le_refl _) hown' hgrow; have hc1 := hv1.cell; have hf1 := hv1.frozen)
    exact ⟨hk2.from _, hk2.walks, ⟨_, hv2, by rw [List.length_append, List.length_singleton, ents_snoc]; exact hr2, trivial⟩, hB.trans hb2⟩
  case done =>
    rintro D L W hD hS ⟨⟨v, hv, hrow, _⟩, hB⟩ hK
    have hc := hv.cell
    gi_wp2
    refine ⟨by simp, .inl ⟨_, _, rfl, run_takeDeferred hK, ?_⟩⟩
    exact ⟨_, results_tmp rfl _ _ _, v, L, rfl, hS, ownsRow_putObj hrow _ hK rfl, hB.trans (belowK_b (w := w) (Nat.le_refl _) W D _ _ (by omega) hK rfl rfl)⟩
  case stop =>
    rintro D c pre W _ _ h _
    exact h.elim
end Go.Proofs.YtlpdhglibgnkoaaGreat

namespace Go.Proofs.YtlpdhglibgnkoaaGreat
open Go.RowKit
set_option linter.unusedVariables false
set_option maxRecDepth 20000

theorem OwnE.mono {w : World} {B B' : Nat} {v : Value} {L : List En} (h : OwnE w B v L) (hB : B' ≤ B) : OwnE w B' v L := by
  refine ⟨h.1, ?_⟩
  rcases h.2 with hn | ⟨g, cap, cur, hv, hb, rest⟩
  · exact Or.inl hn
  · exact Or.inr ⟨g, cap, cur, hv, Nat.le_trans hB hb, rest⟩
theorem dl_collect (w : World) (b Bm : Nat) (M : List En) (h : MapE w b M) (hBm : Bm < w.heap.size) (hm : w.cell? ⟨Bm, 0, none⟩ = some (.map (some b))) :
    Calls Tryz.prog 113 #[.func (.func 115) #[] #[.pointer (some ⟨Bm, 0, none⟩)]] w fun e w' => ∃ v L, e = .returned v ∧ L.Perm M ∧ OwnE w' w.heap.size v L ∧ Below w.heap.size w w' := by
  have hl := len_max h.asc_
  have HA : Hid (Calls Tryz.prog 140 #[.slice none 0 0, .func (.func 115) #[] #[.pointer (some ⟨Bm, 0, none⟩)]] w fun e w' => ∃ v L, e = .returned v ∧ L.Perm M ∧ OwnE w' w.heap.size v L ∧ Below w.heap.size w w') :=
    callsIn_wide.1 (dl_append Fence.wide 5 trivial rfl (by omega) _ _ trivial (enters_of Tryz.func115 (by kernel_rfl) rfl) _ _ M.length (by omega) w (dl_stops Fence.wide 4 trivial rfl (by omega) Bm b M w hBm hm h))
  clear h hm
  go_enter Tryz.func113, Tryz.ntmps113
  go_wp2_with (go_at_call 140; refine HA.out.mono ?_; rintro e w' ⟨v, L, rfl, hp, ho, hb⟩)
  go_ret
  exact ⟨v, L, rfl, hp, ho, hb⟩
theorem below_row {w w1 w2 : World} {B : Nat} {v : Value} {L : List En} (hb : Below B w w1) (hB : B ≤ w1.heap.size) (ho : OwnE w1 B v L) (hg : w1.grownBy w2 v.ownBlock) : Below B w w2 :=
  hb.grown hg hB (fun k hk => (ho.lt k hk).1)
theorem dl_sorted (w : World) (b Bm : Nat) (M : List En) (h : MapE w b M) (hBm : Bm < w.heap.size) (hm : w.cell? ⟨Bm, 0, none⟩ = some (.map (some b))) :
    Calls Tryz.prog 84 #[.func (.func 115) #[] #[.pointer (some ⟨Bm, 0, none⟩)], .func (.func 86) #[] #[]] w fun e w' => ∃ v, e = .returned v ∧ OwnE w' w.heap.size v M ∧ Below w.heap.size w w' := by
  have hl := len_max h.asc_
  have HR : Hid (rise (-1) M) := h.asc_
  have HC : Hid (Calls Tryz.prog 113 #[.func (.func 115) #[] #[.pointer (some ⟨Bm, 0, none⟩)]] w fun e w' => ∃ v L, e = .returned v ∧ L.Perm M ∧ OwnE w' w.heap.size v L ∧ Below w.heap.size w w') := dl_collect w b Bm M h hBm hm
  clear h hm
  go_enter Tryz.func84, Tryz.ntmps84
  go_wp2_with (go_at_call 113; refine HC.out.mono ?_; rintro e w1 ⟨v, L, rfl, hp, ho, hb⟩)
  refine (sortE_any w1 _ v L ho (by have := hp.length_eq; omega)).mono ?_
  rintro e w2 ⟨rfl, S, p1, p2, o2, g2⟩
  have eS : S = M := rise_only HR.out (hp.symm.trans p1.symm) p2
  subst eS
  have b2 := below_row hb hb.size ho g2
  go_wp2_with fail
  go_ret
  exact ⟨v, rfl, o2, b2⟩
theorem dl_rising (w : World) (b : Nat) (M : List En) (h : MapE w b M) :
    Calls Tryz.prog 52 #[.map (some b)] w fun e w' => ∃ v, e = .returned v ∧ OwnE w' w.heap.size v M ∧ Below w.heap.size w w' := by
  have hb0 : Below w.heap.size w (w.alloc (.cells #[.map (some b)] 104)) := (Below.refl _ _).alloc (Nat.le_refl _) _
  have HS : Hid (Calls Tryz.prog 84 #[.func (.func 115) #[] #[.pointer (some ⟨w.heap.size, 0, none⟩)], .func (.func 86) #[] #[]] (w.alloc (.cells #[.map (some b)] 104)) fun e w' => ∃ v, e = .returned v ∧ OwnE w' (w.alloc (.cells #[.map (some b)] 104)).heap.size v M ∧ Below (w.alloc (.cells #[.map (some b)] 104)).heap.size (w.alloc (.cells #[.map (some b)] 104)) w') :=
    dl_sorted _ b w.heap.size M (h.alloc _) (by simp) ((Blk.new w #[.map (some b)] 104 rfl).cell 0 _ rfl)
  have HB : Hid (Below w.heap.size w (w.alloc (.cells #[.map (some b)] 104))) := hb0
  clear h hb0
  go_enter Tryz.func52, Tryz.ntmps52
  go_wp2_with (first | (go_at_call 85; refine (dl_values _ b).mono ?_; rintro e w1 ⟨rfl, rfl⟩) | (go_at_call 84; refine HS.out.mono ?_; rintro e w2 ⟨v, rfl, ho, hb⟩))
  go_ret
  exact ⟨v, rfl, ho.mono HB.out.size, bthen HB.out hb⟩
end Go.Proofs.YtlpdhglibgnkoaaGreat

namespace Go.Proofs.YtlpdhglibgnkoaaGreat
open Go.RowKit
set_option linter.unusedVariables false
set_option maxRecDepth 8000

theorem ne_own {w : World} {B b : Nat} {v : Value} {L : List Rc} (h : OwnR w B v L) (hb : b < B) : some b ≠ v.ownBlock := fun e => by have := (h.lt b e.symm).1; omega
theorem OwnR.turn {w w' : World} {B K : Nat} {u : Value} {L : List Rc} (h : OwnR w B u L) (hg : w.grownBy w' (some K)) (hK : K < B) : OwnR w' B u L := by
  refine World.ownsRow.kept h hg ?_
  by_cases e : u.ownBlock = none
  · exact Or.inl e
  · exact Or.inr (fun e' => ne_own h hK e'.symm)
theorem grownBy_setCellAny (W : World) (b o : Nat) (v : Value) : W.grownBy (W.setCell ⟨b, o, none⟩ v) (some b) :=
  ⟨rfl, rfl, rfl, (KeepsWalks.setCell W _ v).size, fun k _ hk => Below.heap_setCell _ _ _ k (fun e => hk (by rw [e]))⟩
theorem OwnR.set {w : World} {B b o : Nat} {u x : Value} {L : List Rc} (h : OwnR w B u L) (hb : b < B) : OwnR (w.setCell ⟨b, o, none⟩ x) B u L := h.turn (grownBy_setCellAny w b o x) hb
theorem MapE.row {w w' : World} {B K : Nat} {v v' : Value} {L : List Rc} {N : List En} (h : MapE w K N) (ho : OwnR w B v L) (hK : K < B) (k : Grow B v w v' w') : MapE w' K N := h.kept k.by_ (ne_own ho hK)
theorem Blk.row {w w' : World} {B b : Nat} {v v' : Value} {L : List Rc} {cs : List Value} (h : Blk w b cs) (ho : OwnR w B v L) (hb : b < B) (k : Grow B v w v' w') : Blk w' b cs := h.by_ k.by_ (ne_own ho hb)
theorem OwnR.by_ {w w' : World} {B I : Nat} {u : Value} {L : List Rc} (h : OwnR w B u L) (hg : w.grownBy w' (some I)) (hne : some I ≠ u.ownBlock) : OwnR w' B u L := World.ownsRow.kept h hg (Or.inr (fun e => hne e.symm))
section
variable {w : World} {ops : Array Oper} {rest : List Oper} {o : Oper} {a : Act} {Q : Exit → Act → World → Prop}
end
def telE (a b : List En) : Int := if (mrg a b).isNone = true then 15 else 0
def telG (g : Gm) (a b : List En) : Gm := if (mrg a b).isNone = true then ⟨0, 0, 0⟩ else g
def telL (a b : List En) : List Rc := (mrg a b).getD []
end Go.Proofs.YtlpdhglibgnkoaaGreat

namespace Go.Proofs.YtlpdhglibgnkoaaGreat
open Go.RowKit
set_option linter.unusedVariables false
set_option maxRecDepth 8000

def fulG (t m : Int) (L : List En) : Gm := if fulE t m L = 0 then ⟨t, m, -1⟩ else ⟨0, 0, 0⟩
def dlG (t m : Int) (L : List En) (t' m' : Int) (L' : List En) : Gm := if dlE t m L t' m' L' = 0 then ⟨t', m', t⟩ else ⟨0, 0, 0⟩
theorem sn_rise {t m : Int} {A : Nat → En} {n : Nat} (h : snE t m (preE A n) = 0) : rise (-1) (preE A n) := (sn_ok h).2.2.2.2
end Go.Proofs.YtlpdhglibgnkoaaGreat
