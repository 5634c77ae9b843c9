/-
  Texts Dl8, Dl9, Dl10 in one.
-/
import Derived.Sort.OwnSorted
import Derived.RangeFuncNested
import Derived.RangeFuncBound
import Derived.RangeFuncCalls
import Derived.RangeFuncLeaves
import Derived.RangeFuncBox
import Derived.Shelf.Abstract
import Derived.Shelf.RegionOpen
import Derived.WalkKit
import Derived.OwnWalkIn
import Derived.TacticsInMore
import Derived.LoopNIn
import Derived.LoopIn
import Derived.Maps.OwnIn
import Derived.Maps.AppendAt
import Derived.Sort.MapsRangeIn
import Derived.RangeFuncSeq
import Derived.Test.YtokegpajjicehaaGreatP25
namespace Go.Proofs.YtokegpajjicehaaGreat
open Go.RowKit Go.Sort Go.Shelf
set_option linter.unusedVariables false
set_option maxRecDepth 20000

theorem heap_sortV {w : World} {g n : Nat} {os : Array Obj} {cur : Array Value} {e : TypeId} {fr : Nat × Nat} (d : Array Value) (hb : w.heap[g]? = some (.cells cur e fr)) :
    (grow (putRow id (Sort.ahead w n) g 0 d) os).heap[g]? = some (.cells (putCells id 0 d cur) e fr) := by
  have hg : g < w.heap.size := (Array.getElem?_eq_some_iff.1 hb).1
  rw [heap_grow_old _ _ (by simpa using hg)]
  simp [putRow, mapBlock, Sort.ahead, Array.getElem?_modify, hb, onCells]
theorem grownBy_sortV {w : World} {g n : Nat} {os : Array Obj} (d : Array Value) : w.grownBy (grow (putRow id (Sort.ahead w n) g 0 d) os) (some g) := by
  refine ⟨rfl, rfl, rfl, by simp, fun k hk hne => ?_⟩
  rw [heap_grow_old _ _ (by simpa using hk)]
  have : g ≠ k := fun e => hne (by rw [e])
  simp [putRow, mapBlock, Sort.ahead, Array.getElem?_modify, this]
theorem take_putV (cur : Array Value) (ts : List Value) (h : ts.length ≤ cur.size) : (putCells id 0 ts.toArray cur).toList.take ts.length = ts := by
  apply List.ext_getElem?
  intro j
  by_cases hj : j < ts.length
  · rw [List.getElem?_take_of_lt hj, Array.getElem?_toList]
    simp [putCells, hj, show j < cur.size by omega]
  · rw [List.getElem?_take_eq_none (by omega), List.getElem?_eq_none (by omega)]
theorem holdsV {w : World} {g : Nat} {cur : Array Value} {e : TypeId} {ss : List Value} (hb : w.heap[g]? = some (.cells cur e (0, 0))) (ht : cur.toList.take ss.length = ss) : Holds id w g 0 ss.toArray := by
  intro j hj
  have hj' : j < ss.length := by simpa using hj
  refine ⟨?_, by simp [World.frozen?, hb]⟩
  have h1 : (cur.toList.take ss.length)[j]? = ss[j]? := by rw [ht]
  rw [List.getElem?_take_of_lt hj'] at h1
  simp only [World.cell?, hb, Nat.zero_add]
  simp only [Option.isSome_none, Bool.false_eq_true, if_false]
  rw [← Array.getElem?_toList, h1]
  simp [hj']
theorem flat_eq {α : Type} [Inhabited α] (enc : α → List Value) (h9 : ∀ x, (enc x).length = 9) (L : List α) (F : List Value) (hF : F.length = L.length * 9) (hat : ∀ i j x, i < L.length → (enc L[i]!)[j]? = some x → F[i * 9 + j]? = some x) : flatK enc 9 L.toArray = F.toArray := by
  refine Array.ext (by rw [size_flatK]; simp [hF]) fun t h1 h2 => ?_
  have ht : t < L.length * 9 := by rw [size_flatK] at h1; simpa using h1
  have hm : t % 9 < 9 := Nat.mod_lt _ (by omega)
  have hi : t / 9 < L.length := by omega
  have g := get_flatK enc 9 L.toArray t (by simpa using ht)
  rw [getElem!_pos _ t h1] at g
  have e2 : L.toArray[t / 9]! = L[t / 9]! := by simp
  rw [g, e2]
  have hl : t % 9 < (enc L[t / 9]!).length := by rw [h9]; exact hm
  rw [getElem!_pos _ (t % 9) hl]
  have e := hat (t / 9) (t % 9) _ hi (List.getElem?_eq_getElem hl)
  rw [show t / 9 * 9 + t % 9 = t by omega] at e
  rw [List.getElem_toArray]
  obtain ⟨_, e'⟩ := List.getElem?_eq_some_iff.1 e
  exact e'.symm
theorem flatR [Inhabited Rc] (L : List Rc) : flatK recC 9 L.toArray = (recs L).toArray :=
  flat_eq recC (fun _ => rfl) L (recs L) (recs_len L) fun i j x hi h => recs_at L i j x hi (by
    have e : L.getD i noRec = L[i]! := by rw [getElem!_pos L i hi]; simp [List.getD, hi]
    rw [e]; exact h)
theorem flatE [Inhabited En] (L : List En) : flatK entC 9 L.toArray = (ents L).toArray :=
  flat_eq entC (fun _ => rfl) L (ents L) (ents_len L) fun i j x hi h => ents_at L i j x hi (by
    have e : L.getD i noEnt = L[i]! := by rw [getElem!_pos L i hi]; simp [List.getD, hi]
    rw [e]; exact h)

/-! the comparison -/
def cmpI (a b : Int) : Int := if a < b then -1 else if b < a then 1 else 0
theorem nan_any (w : World) (a : Int) : Calls Tryz.prog 98 #[.int .i64 a] w fun e w' => e = .returned (.bool false) ∧ w' = w := by
  go_enter Tryz.func98, Tryz.ntmps98
  go_wp2_with fail
  go_ret
  exact ⟨by simp, rfl⟩
theorem cmp_any (w : World) (a b : Int) : Calls Tryz.prog 60 #[.int .i64 a, .int .i64 b] w fun e w' => e = .returned (.int .i64 (cmpI a b)) ∧ w' = w := by
  have H : Hid ((a < b → cmpI a b = -1) ∧ (¬ a < b → b < a → cmpI a b = 1) ∧ (¬ a < b → ¬ b < a → cmpI a b = 0)) := ⟨fun h => if_pos h, fun h h2 => by unfold cmpI; rw [if_neg h, if_pos h2], fun h h2 => by unfold cmpI; rw [if_neg h, if_neg h2]⟩
  obtain ⟨c, hc⟩ : ∃ c, cmpI a b = c := ⟨_, rfl⟩
  rw [hc] at H
  rw [hc]
  clear hc
  by_cases h1 : a < b
  · have e := H.out.1 h1
    subst e
    clear H
    go_enter Tryz.func60, Tryz.ntmps60
    go_wp2_with (go_at_call 98; refine (nan_any _ _).mono ?_; rintro e w' ⟨rfl, rfl⟩)
    go_ret
    exact ⟨rfl, rfl⟩
  · by_cases h2 : b < a
    · have e := H.out.2.1 h1 h2
      subst e
      clear H
      go_enter Tryz.func60, Tryz.ntmps60
      go_wp2_with (go_at_call 98; refine (nan_any _ _).mono ?_; rintro e w' ⟨rfl, rfl⟩)
      go_ret
      exact ⟨rfl, rfl⟩
    · have e := H.out.2.2 h1 h2
      subst e
      clear H
      go_enter Tryz.func60, Tryz.ntmps60
      go_wp2_with (go_at_call 98; refine (nan_any _ _).mono ?_; rintro e w' ⟨rfl, rfl⟩)
      go_ret
      exact ⟨rfl, rfl⟩
def cfR (x y : Rc) : Int := cmpI x.i y.i
def cfE (x y : En) : Int := cmpI x.i y.i
theorem lt_cmp {a b : Int} : (decide (cmpI a b < 0)) = decide (a < b) := by
  unfold cmpI
  by_cases h1 : a < b
  · simp [h1]
  · by_cases h2 : b < a <;> simp [h1, h2]
theorem ltR (x y : Rc) : ltOf cfR x y = decide (x.i < y.i) := lt_cmp
theorem ltE (x y : En) : ltOf cfE x y = decide (x.i < y.i) := lt_cmp
theorem swoR : SWO (ltOf cfR) where
  irrefl x := by rw [ltR]; simp
  trans x y z h1 h2 := by rw [ltR] at *; simp at *; omega
  ntrans x y z h1 h2 := by rw [ltR] at *; simp at *; omega
theorem swoE : SWO (ltOf cfE) where
  irrefl x := by rw [ltE]; simp
  trans x y z h1 h2 := by rw [ltE] at *; simp at *; omega
  ntrans x y z h1 h2 := by rw [ltE] at *; simp at *; omega
theorem cloR (x y : Rc) (W : World) : Calls Tryz.prog 59 #[recV x, recV y] W fun e w' => e = .returned (.int .i64 (cfR x y)) ∧ ∃ q os', w' = grow (W.drewN q) os' := by
  have HC : Hid (∀ w', Calls Tryz.prog 60 #[.int .i64 x.i, .int .i64 y.i] w' fun e w'' => e = .returned (.int .i64 (cfR x y)) ∧ w'' = w') := fun w' => cmp_any w' x.i y.i
  obtain ⟨c, hc⟩ : ∃ c, cfR x y = c := ⟨_, rfl⟩
  rw [hc] at HC
  rw [hc]
  clear hc
  go_enter Tryz.func59, Tryz.ntmps59
  go_wp2_with (go_at_call 60; refine (HC.out _).mono ?_; rintro e w' ⟨rfl, rfl⟩)
  go_ret
  exact ⟨rfl, 0, _, by rw [alloc_eq_grow, alloc_eq_grow, grow_grow]; rfl⟩
theorem cloE (x y : En) (W : World) : Calls Tryz.prog 94 #[entV x, entV y] W fun e w' => e = .returned (.int .i64 (cfE x y)) ∧ ∃ q os', w' = grow (W.drewN q) os' := by
  have HC : Hid (∀ w', Calls Tryz.prog 60 #[.int .i64 x.i, .int .i64 y.i] w' fun e w'' => e = .returned (.int .i64 (cfE x y)) ∧ w'' = w') := fun w' => cmp_any w' x.i y.i
  obtain ⟨c, hc⟩ : ∃ c, cfE x y = c := ⟨_, rfl⟩
  rw [hc] at HC
  rw [hc]
  clear hc
  go_enter Tryz.func94, Tryz.ntmps94
  go_wp2_with (go_at_call 60; refine (HC.out _).mono ?_; rintro e w' ⟨rfl, rfl⟩)
  go_ret
  exact ⟨rfl, 0, _, by rw [alloc_eq_grow, alloc_eq_grow, grow_grow]; rfl⟩
/-- A sorted permutation, as lists. -/
theorem sorted_list {α : Type} [Inhabited α] {lt : α → α → Bool} {L : List α} {d' : Array α} (hp : PermIn 0 L.toArray.size L.toArray d') (hs : SortedIn lt 0 L.toArray.size d') : d'.toList.Perm L ∧ d'.toList.Pairwise (fun x y => lt y x = false) := by
  have hsz : d'.size = L.length := by simpa using hp.1
  constructor
  · have := hp.2.2
    have e1 : d'.extract 0 L.toArray.size = d' := by rw [← hp.1]; simp
    have e2 : L.toArray.extract 0 L.toArray.size = L.toArray := by simp
    rw [e1, e2] at this
    simpa using this
  · refine List.pairwise_iff_getElem.2 fun i j hi hj hij => ?_
    have h := hs i j (Nat.zero_le _) hij (by simp at hj; simp; omega)
    rw [getElem!_pos d' j (by simpa using hj), getElem!_pos d' i (by simpa using hi)] at h
    simpa using h
theorem aggR (w : World) : (isAgg 79).run Tryz.prog w = .ok true w := by kernel_rfl
theorem sizeR (w : World) : (Go.sizeOf 79).run Tryz.prog w = .ok 9 w := by kernel_rfl
theorem aggE (w : World) : (isAgg 40).run Tryz.prog w = .ok true w := by kernel_rfl
theorem sizeE (w : World) : (Go.sizeOf 40).run Tryz.prog w = .ok 9 w := by kernel_rfl
theorem sortR_any (w : World) (B : Nat) (v : Value) (L : List Rc) (h : OwnR w B v L) (hl : L.length ≤ 1000000) :
    Calls Tryz.prog 58 #[v, .func (.func 59) #[] #[]] w fun e w' => e = .returned (.tuple #[]) ∧ ∃ S : List Rc, S.Perm L ∧ S.Pairwise (fun x y => x.i ≤ y.i) ∧ OwnR w' B v S ∧ w.grownBy w' v.ownBlock := by
  haveI : Inhabited Rc := ⟨noRec⟩
  haveI : Inhabited En := ⟨noEnt⟩
  rcases h.2 with ⟨rfl, h0⟩ | ⟨g, cap, cur, rfl, hB, hg, hc, hm, hs, ht⟩
  · have hnil : L = [] := List.eq_nil_of_length_eq_zero h0
    subst hnil
    have hS := AnyF.slices_SortFunc_none (P := Tryz.prog) (ρ := layR_ren) { layR with } none 0 (.func (.func 59) #[] #[]) w
    change Calls Tryz.prog 58 _ _ _ at hS
    refine hS.mono fun e w' ⟨he, hw⟩ => ?_
    subst hw
    exact ⟨he, [], List.Perm.refl _, List.Pairwise.nil, h, World.grownBy.refl _ _⟩
  · have eg : ∀ args w, (callFunc 59 args).run Tryz.prog w = .ok (.enter 59 args) w := enters_of Tryz.func59 (by kernel_rfl) rfl
    have hlen := recs_len L
    have hH : HoldsK recC 9 w g 0 L.toArray := by
      unfold HoldsK
      rw [flatR]
      exact holdsV hg (by rw [hlen]; exact ht)
    have hcon := AnyQ.slices_SortFunc layR 9 aggR sizeR recC (fun _ => rfl) recC_one cfR swoR 59 #[] g 0 cap L.toArray w eg (fun _ _ _ _ x y => cloR x y _) hH (Array.getElem?_eq_some_iff.1 hg).1 (by simp; omega)
    change Calls Tryz.prog 58 _ _ _ at hcon
    have es : L.toArray.size = L.length := by simp
    rw [es] at hcon
    refine hcon.mono fun e w' ⟨he, d', n, os, hp, hso, hw⟩ => ?_
    obtain ⟨q1, q2⟩ := sorted_list (by rw [es]; exact hp) (by rw [es]; exact hso)
    subst hw
    have hfl : flatK recC 9 d' = (recs d'.toList).toArray := by have := flatR d'.toList; simpa using this
    have hdl : d'.toList.length = L.length := q1.length_eq
    refine ⟨he, d'.toList, q1, q2.imp (fun {a b} h => by rw [ltR] at h; simp at h; omega), ?_, ?_⟩
    · unfold sortWorldK putRowK
      rw [hfl]
      unfold OwnR
      rw [hdl]
      refine ⟨by rw [recs_len, hdl], .inr ⟨g, cap, _, rfl, hB, heap_sortV _ hg, hc, hm, by simp [putCells, hs], ?_⟩⟩
      have hr := recs_len d'.toList
      rw [hdl] at hr
      rw [← hr]
      exact take_putV cur _ (by rw [hr, hs]; omega)
    · unfold sortWorldK putRowK
      exact grownBy_sortV _
theorem sortE_any (w : World) (B : Nat) (v : Value) (L : List En) (h : OwnE w B v L) (hl : L.length ≤ 1000000) :
    Calls Tryz.prog 127 #[v, .func (.func 94) #[] #[]] w fun e w' => e = .returned (.tuple #[]) ∧ ∃ S : List En, S.Perm L ∧ S.Pairwise (fun x y => x.i ≤ y.i) ∧ OwnE w' B v S ∧ w.grownBy w' v.ownBlock := by
  haveI : Inhabited Rc := ⟨noRec⟩
  haveI : Inhabited En := ⟨noEnt⟩
  rcases h.2 with ⟨rfl, h0⟩ | ⟨g, cap, cur, rfl, hB, hg, hc, hm, hs, ht⟩
  · have hnil : L = [] := List.eq_nil_of_length_eq_zero h0
    subst hnil
    have hS := AnyF.slices_SortFunc_none (P := Tryz.prog) (ρ := layE_ren) { layE with } none 0 (.func (.func 94) #[] #[]) w
    change Calls Tryz.prog 127 _ _ _ at hS
    refine hS.mono fun e w' ⟨he, hw⟩ => ?_
    subst hw
    exact ⟨he, [], List.Perm.refl _, List.Pairwise.nil, h, World.grownBy.refl _ _⟩
  · have eg : ∀ args w, (callFunc 94 args).run Tryz.prog w = .ok (.enter 94 args) w := enters_of Tryz.func94 (by kernel_rfl) rfl
    have hlen := ents_len L
    have hH : HoldsK entC 9 w g 0 L.toArray := by
      unfold HoldsK
      rw [flatE]
      exact holdsV hg (by rw [hlen]; exact ht)
    have hcon := AnyQ.slices_SortFunc layE 9 aggE sizeE entC (fun _ => rfl) entC_one cfE swoE 94 #[] g 0 cap L.toArray w eg (fun _ _ _ _ x y => cloE x y _) hH (Array.getElem?_eq_some_iff.1 hg).1 (by simp; omega)
    change Calls Tryz.prog 127 _ _ _ at hcon
    have es : L.toArray.size = L.length := by simp
    rw [es] at hcon
    refine hcon.mono fun e w' ⟨he, d', n, os, hp, hso, hw⟩ => ?_
    obtain ⟨q1, q2⟩ := sorted_list (by rw [es]; exact hp) (by rw [es]; exact hso)
    subst hw
    have hfl : flatK entC 9 d' = (ents d'.toList).toArray := by have := flatE d'.toList; simpa using this
    have hdl : d'.toList.length = L.length := q1.length_eq
    refine ⟨he, d'.toList, q1, q2.imp (fun {a b} h => by rw [ltE] at h; simp at h; omega), ?_, ?_⟩
    · unfold sortWorldK putRowK
      rw [hfl]
      unfold OwnE
      rw [hdl]
      refine ⟨by rw [ents_len, hdl], .inr ⟨g, cap, _, rfl, hB, heap_sortV _ hg, hc, hm, by simp [putCells, hs], ?_⟩⟩
      have hr := ents_len d'.toList
      rw [hdl] at hr
      rw [← hr]
      exact take_putV cur _ (by rw [hr, hs]; omega)
    · unfold sortWorldK putRowK
      exact grownBy_sortV _
end Go.Proofs.YtokegpajjicehaaGreat

namespace Go.Proofs.YtokegpajjicehaaGreat
open Go.RowKit Go.Shelf
set_option linter.unusedVariables false
set_option maxRecDepth 100000
attribute [local go_sem] Oper.semAt_some


theorem RunE.of_walks {w w' : World} {b r : Nat} {M got : List En} {cnt : Nat} (h : RunE w b r M got cnt) (hk : KeepsWalks w w') : RunE w' b r M got cnt := by
  obtain ⟨D, left, h1, h2⟩ := h
  exact ⟨D, left, h1.of_walks hk, h2⟩
theorem RunE.iter {w : World} {b r : Nat} {M got : List En} {cnt : Nat} (h : RunE w b r M got cnt) : ∃ o : Obj, w.heap[r]? = some o ∧ o.isWalk = true := by
  obtain ⟨D, left, h1, h2⟩ := h
  exact h1.iter_walk
section
variable {F : Fence} {n : Nat} {w : World} {ops : Array Oper} {rest : List Oper} {o : Oper} {a : Act} {Q : Exit → Act → World → Prop}
theorem rangeE_in (hg : o.guard = none) (m : Operand) (hop : o.op = Op.range 107 m) (b : Nat) (M : List En) (hm : a.eval m = .map (some b)) (h : MapE w b M)
    (hK : ∀ w', RunE w' b w.heap.size M [] M.length → w.grownBy w' none → w'.heap.size = w.heap.size + 1 → wpListIn F n Tryz.prog ops Q rest (a.put o.dst (.pointer (some ⟨w.heap.size, 0, none⟩))) w') : wpListIn F n Tryz.prog ops Q (o :: rest) a w := by
  obtain ⟨D, h1, h2, h3⟩ := h
  refine wpListIn_range_own _ hg m 107 hop 3 40 law_int Tryz.underlying107 RV b M.length D hm h1 ?_
  intro w' hr hg' hs
  exact hK w' (mapE_start h2 h3 hr) hg' hs
theorem nextE_in (hg : o.guard = none) (it : Operand) (hop : o.op = Op.next it false) (b r : Nat) (M got : List En) (cnt : Nat) (hit : a.eval it = .pointer (some ⟨r, 0, none⟩)) (h : RunE w b r M got cnt)
    (hDone : got.Perm M → wpListIn F n Tryz.prog ops Q rest (a.put o.dst (.tuple #[.bool false])) w)
    (hMore : ∀ (e : En) (w' : World) (cnt' : Nat), e ∈ M → RunE w' b r M (got ++ [e]) cnt' → cnt' < cnt → w.grownBy w' (some r) → w'.heap.size = w.heap.size →
      (Instr.entry (.pointer (some ⟨r, 0, none⟩))).run Tryz.prog w' = .ok (.tuple #[.int .i64 e.i, entV e]) w' → wpListIn F n Tryz.prog ops Q rest (a.put o.dst (.tuple #[.bool true, .int .i64 e.i, entV e])) w') : wpListIn F n Tryz.prog ops Q (o :: rest) a w := by
  obtain ⟨D, left, h1, h2, h3, h4, h5⟩ := h
  refine wpListIn_next_ranges _ hg it hop 3 law_int RV (Value.int .i64) id (fun key kl hkey => by obtain ⟨x, rfl, _⟩ := Maps.keyOf_int_inv Tryz.underlying3 hkey; exact ⟨x, rfl⟩) (fun v y hv => ⟨v, rfl⟩) b r M.length D left cnt hit h1 (fun hc hl => hDone (RunE.done (w := w) (b := b) (r := r) (cnt := cnt) (D := D) h2 h4 h5 hl)) ?_
  intro x v kl y w' cnt' hkey hl hv hat hr hlt hg' hs hen
  obtain ⟨x', ex, rfl, hwx⟩ := Maps.keyOf_int_inv Tryz.underlying3 hkey
  cases ex
  obtain ⟨e, he, rfl, ev, hR⟩ := RunE.step (cnt := cnt) (w := w) h2 h3 h4 h5 (wf_i64 hwx) hl hv hat hr
  have ev' : v = entV e := ev
  subst ev'
  exact hMore e w' cnt' he hR hlt hg' hs hen
end
abbrev yE (e : En) : Array Value := #[entV e]
theorem dl_values1 (F : Fence) (n : Nat) (h8 : F.fn 128) (hro : F.round = none) (hn : 1 ≤ n) (l Bm b : Nat) (M : List En) (J Jx : List En → World → Prop)
    (hY : ∀ pre x W, J pre W → pre.length < M.length → YieldAt F (n - 1) Tryz.prog l (yE x) W fun e W' =>
      (e = .returned (.bool true) ∧ J (pre ++ [x]) W' ∧ KeepsWalks W W') ∨ (e = .returned (.bool false) ∧ Jx (pre ++ [x]) W'))
    (W : World) (hJ : AbidesFrom W.heap.size J) (hm : W.cell? ⟨Bm, 0, none⟩ = some (.map (some b))) (hown : MapE W b M) (h0 : J [] W) :
    CallsIn F n Tryz.prog 128 #[.func (.yield l) #[] #[], .pointer (some ⟨Bm, 0, none⟩)] W fun e W' => (∃ v, e = .returned v) ∧ ((∃ xs, xs.Perm M ∧ J xs W') ∨ (∃ pre, True ∧ Jx pre W')) := by
  refine callsIn_of_wp Tryz.func128 rfl h8 ?_ hro
  simp only [Tryz.ntmps128, List.size_toArray, List.length_cons, List.length_nil, Nat.reduceAdd, Nat.reduceSub, Array.replicate_succ, Array.replicate_zero, List.push_toArray, List.append_toArray, List.nil_append, List.cons_append]
  gi_wp2_with (first
    | (gi_at_range; refine rangeE_in rfl _ rfl b M rfl (by exact hown) ?_; intro w0 hrg0 hg0 hs0)
    | gi_in)
  go_frame
  gi_loopw [4] (fun _ wr => ∃ (cnt : Nat) (got : List En), RunE wr b W.heap.size M got cnt ∧ got.length + cnt ≤ M.length ∧ J got wr)
    (fun _ wr => wr.rangeLeft b W.heap.size)
  case atStart =>
    exact ⟨_, [], hrg0, by simp, hJ [] W w0 none h0 hg0 (fun r e => by cases e)⟩
  case round =>
    obtain ⟨cnt, got, hrg, hcs, hJs⟩ := hrel
    gi_wp2_with (first
      | (gi_at_next; refine nextE_in rfl _ rfl b W.heap.size M got cnt rfl (by exact hrg) ?_ ?_)
      | gi_in)
    · intro hp
      gi_wp2
      go_end0
      exact ⟨⟨_, rfl⟩, .inl ⟨got, hp, hJs⟩⟩
    · intro e w2 cnt2 he hrg2 hlt hg2 hs2 hen
      have hJ2 : J got w2 := hJ got wr w2 (some W.heap.size) hJs hg2 (fun r e => by cases e; exact ⟨Nat.le_refl _, hrg.iter⟩)
      have hJ3 : J got (w2.alloc (.cells #[.int .i64 e.i, .int .i64 e.p0, .int .i64 e.p1, .int .i64 e.p2, .int .i64 e.v0, .int .i64 e.v1, .int .i64 e.v2, .int .u16 e.a, .int .u8 e.g] 40)) := hJ got w2 _ none hJ2 (World.grownBy_alloc _ _ _) (fun r e => by cases e)
      obtain ⟨fn, tmps, assign, body, hy, hR⟩ := hY got e _ hJ3 (by omega)
      dsimp only [yE] at hy
      clear hs2
      gi_wp2
      refine hR.mono ?_
      have hrg2' := hrg2.kept (World.grownBy_alloc w2 (.cells #[.int .i64 e.i, .int .i64 e.p0, .int .i64 e.p1, .int .i64 e.p2, .int .i64 e.v0, .int .i64 e.v1, .int .i64 e.v2, .int .u16 e.a, .int .u8 e.g] 40) none) (by simp) (by simp)
      rintro e' W3 (⟨rfl, hJ4, hk3⟩ | ⟨rfl, hJx3⟩)
      · gi_wp2
        have hrg3 := hrg2'.of_walks hk3
        go_roundw
        case rel => exact ⟨cnt2, got ++ [e], hrg3, by rw [List.length_append, List.length_singleton]; omega, hJ4⟩
        case measure => rw [hrg3.left_eq, hrg.left_eq]; exact hlt
      · gi_wp2
        refine bodyPost_ret (results_none rfl _ _ _) rfl ?_
        exact ⟨⟨_, rfl⟩, .inr ⟨got ++ [e], trivial, hJx3⟩⟩
theorem dl_stops (F : Fence) (n : Nat) (h7 : F.fn 128) (hro : F.round = none) (hn : 1 ≤ n) (Bm b : Nat) (M : List En) (w : World) (hBm : Bm < w.heap.size)
    (hm : w.cell? ⟨Bm, 0, none⟩ = some (.map (some b))) (hown : MapE w b M) :
    SeqStopsK F n Tryz.prog 128 #[.pointer (some ⟨Bm, 0, none⟩)] yE KeepsWalks (fun xs => xs.Perm M) (fun _ => True) M.length w := fun l J Jx W hW hJ _ hY h0 =>
  dl_values1 F n h7 hro hn l Bm b M J Jx hY W hJ ((hW.cell (p := ⟨Bm, 0, none⟩) hBm).trans hm) (hown.below hW) h0
theorem dl_values (w : World) (b : Nat) : Calls Tryz.prog 93 #[.map (some b)] w fun e w' =>
    e = .returned (.func (.func 128) #[] #[.pointer (some ⟨w.heap.size, 0, none⟩)]) ∧ w' = w.alloc (.cells #[.map (some b)] 107) := by
  go_enter Tryz.func93, Tryz.ntmps93
  go_wp2_with fail
  go_ret
  exact ⟨rfl, rfl⟩
theorem new_ent (w : World) (x : En) : ∀ j u, (entC x)[j]? = some u → (w.alloc (.cells #[.int .i64 x.i, .int .i64 x.p0, .int .i64 x.p1, .int .i64 x.p2, .int .i64 x.v0, .int .i64 x.v1, .int .i64 x.v2, .int .u16 x.a, .int .u8 x.g] 40)).cell? ((⟨w.heap.size, 0, none⟩ : Addr).add j) = some u := fun j u h => by
  have B := Blk.new w #[.int .i64 x.i, .int .i64 x.p0, .int .i64 x.p1, .int .i64 x.p2, .int .i64 x.v0, .int .i64 x.v1, .int .i64 x.v2, .int .u16 x.a, .int .u8 x.g] 40 rfl
  have := B.cell j u (by simpa using h)
  rw [Addr.add_lit, Nat.zero_add]; exact this
theorem ne_types : (22 : Nat) ≠ 40 := by decide
theorem dl_append (F : Fence) (n : Nat) (hf : F.fn 167) (hro : F.round = none) (hn : 2 ≤ n) (gf : Nat) (lb : Array Value) (hFg : F.fn gf) (eg : ∀ args w, (callFunc gf args).run Tryz.prog w = .ok (.enter gf args) w)
    (S Sp : List En → Prop) (N : Nat) (hN : N ≤ 1000000) (w : World) (hseq : SeqStopsK F (n - 1) Tryz.prog gf lb yE KeepsWalks S Sp N w) :
    CallsIn F n Tryz.prog 167 #[.slice none 0 0, .func (.func gf) #[] lb] w fun e w' => ∃ v L, e = .returned v ∧ S L ∧ OwnE w' w.heap.size v L ∧ Below w.heap.size w w' := by
  have h1 : 1 ≤ n := by omega
  obtain ⟨i0, hi, hz0, hz1, hz2⟩ := info_parts infoE
  refine callsIn_of_wp_marks Tryz.func167 rfl hf ?_ hro
  simp only [Tryz.ntmps167, List.size_toArray, List.length_cons, List.length_nil, Nat.reduceAdd, Nat.reduceSub, Array.replicate_succ, Array.replicate_zero, List.push_toArray, List.append_toArray, List.nil_append, List.cons_append]
  gi_wp2
  have bO := Boxed.new w 22 (.slice none 0 0)
  have hB0 : Below w.heap.size w (w.alloc (.cells #[.slice none 0 0] 22)) := (Below.refl _ w).alloc (Nat.le_refl _) _
  have hsz : (w.alloc (.cells #[.slice none 0 0] 22)).heap.size = w.heap.size + 1 := by simp
  obtain ⟨W0, hW0⟩ : ∃ W0, w.alloc (.cells #[.slice none 0 0] 22) = W0 := ⟨_, rfl⟩
  rw [hW0] at bO hB0 hsz ⊢
  clear hW0
  refine wpIn_rangeFunc_ownH hro h1 (gf := gf) (lb := lb) rfl hFg eg hseq walksK_t walksK_b hB0 (fun _ => rfl)
    (fun pre W => (∃ v, Boxed W w.heap.size 22 v ∧ W.ownsRow w.heap.size 40 9 v pre.length (ents pre) ∧ True) ∧ Below w.heap.size w W)
    (fun _ _ _ => False)
    (OwnFrom.and (Own.from (holdsRow_own w.heap.size w.heap.size 22 40 9 (fun pre => List.length pre) (fun pre => ents pre) (fun _ _ => True)) _) (ownFrom_below (Nat.le_refl _) (by omega)))
    (fun _ _ _ _ _ hs _ _ => hs)
    ⟨⟨_, bO, World.ownsRow_nil _ _ _ _, trivial⟩, hB0⟩
    (fun x a' W => ∃ Bx, w.heap.size < Bx ∧ W.heap[Bx]? = some (.cells #[.int .i64 x.i, .int .i64 x.p0, .int .i64 x.p1, .int .i64 x.p2, .int .i64 x.v0, .int .i64 x.v1, .int .i64 x.v2, .int .u16 x.a, .int .u8 x.g] 40 (0, 0)) ∧
      a' = { tmps := #[.slice none 0 0, .func (.func gf) #[] lb, .pointer (some ⟨w.heap.size, 0, none⟩), undef, .slice none 0 0, .pointer (some ⟨Bx, 0, none⟩), .func (.func gf) #[] lb, entV x, undef, undef, undef, undef, undef], defers := [] })
    (fun x a' _ X Y row hs hg hr => by
      obtain ⟨Bx, h1, h2, h3⟩ := hs
      refine ⟨Bx, h1, (hg.block Bx (Array.getElem?_eq_some_iff.1 h2).1 (fun e => ?_)).trans h2, h3⟩
      obtain ⟨_, o, ho, hc⟩ := hr Bx e.symm
      rw [h2] at ho; cases ho; cases hc)
    ?assign ?body ?done ?stop
  case assign =>
    rintro l pre x W K ⟨⟨v, hv, hrow, _⟩, hB1⟩ hK
    gi_wp2
    exact hK _ _ ((KeepsOthers.alloc _ _).from _) (KeepsWalks.alloc _ _) ⟨⟨v, hv.alloc _, hrow.alloc _, trivial⟩, hB1.alloc hB1.size _⟩ ⟨W.heap.size, hv.lt, World.alloc_heap_new W _, rfl⟩
  case body =>
    rintro l pre x a' W hl ⟨r, hr⟩ ⟨⟨v, hv, hrow, _⟩, hB⟩ ⟨Bx, hBx, bX, rfl⟩ hlt
    have hc := hv.cell
    have xs : ∀ (j : Nat) u, (entC x)[j]? = some u → W.cell? ⟨Bx, j, none⟩ = some u := fun j u h => by
      simp only [World.cell?, bX]
      simpa using h
    have x0 := xs 0 _ rfl
    have x1 := xs 1 _ rfl
    have x2 := xs 2 _ rfl
    have x3 := xs 3 _ rfl
    have x4 := xs 4 _ rfl
    have x5 := xs 5 _ rfl
    have x6 := xs 6 _ rfl
    have x7 := xs 7 _ rfl
    have x8 := xs 8 _ rfl
    have lX : Bx < W.heap.size := (Array.getElem?_eq_some_iff.1 bX).1
    clear xs bX
    gi_wp2_with (gi_at_builtin; refine wpListIn_append_own _ rfl _ _ 22 rfl w.heap.size 40 i0 (entV noEnt) 9 64 Tryz.underlying22 hi hz0 hz1 hz2 rfl (by decide) _ _ _ rfl (hrow.alloc _) ⟨W.heap.size, 0, none⟩ 1 1 (entC x) rfl rfl (new_ent W x) (entC_one x) (by unfold maxLen; omega) (by omega) (by have := hB.size; simp; omega) ?_; intro v' w1 hown' hgrow _; obtain ⟨g', cap', rfl⟩ := ownsRow_succ hown'; obtain ⟨hv1, hv2, hr2, hk2, hb2⟩ := hv.appended ne_types hrow hB.size (Nat.le_refl _) hown' hgrow; have hc1 := hv1.cell; have hf1 := hv1.frozen)
    exact ⟨hk2.from _, hk2.walks, ⟨_, hv2, by rw [List.length_append, List.length_singleton, ents_snoc]; exact hr2, trivial⟩, hB.trans hb2⟩
  case done =>
    rintro D L W hD hS ⟨⟨v, hv, hrow, _⟩, hB⟩ hK
    have hc := hv.cell
    gi_wp2
    refine ⟨by simp, .inl ⟨_, _, rfl, run_takeDeferred hK, ?_⟩⟩
    exact ⟨_, results_tmp rfl _ _ _, v, L, rfl, hS, ownsRow_putObj hrow _ hK rfl, hB.trans (belowK_b (w := w) (Nat.le_refl _) W D _ _ (by omega) hK rfl rfl)⟩
  case stop =>
    rintro D c pre W _ _ h _
    exact h.elim
end Go.Proofs.YtokegpajjicehaaGreat

namespace Go.Proofs.YtokegpajjicehaaGreat
open Go.RowKit
set_option linter.unusedVariables false
set_option maxRecDepth 20000

theorem OwnE.mono {w : World} {B B' : Nat} {v : Value} {L : List En} (h : OwnE w B v L) (hB : B' ≤ B) : OwnE w B' v L := by
  refine ⟨h.1, ?_⟩
  rcases h.2 with hn | ⟨g, cap, cur, hv, hb, rest⟩
  · exact Or.inl hn
  · exact Or.inr ⟨g, cap, cur, hv, Nat.le_trans hB hb, rest⟩
theorem dl_collect (w : World) (b Bm : Nat) (M : List En) (h : MapE w b M) (hBm : Bm < w.heap.size) (hm : w.cell? ⟨Bm, 0, none⟩ = some (.map (some b))) :
    Calls Tryz.prog 126 #[.func (.func 128) #[] #[.pointer (some ⟨Bm, 0, none⟩)]] w fun e w' => ∃ v L, e = .returned v ∧ L.Perm M ∧ OwnE w' w.heap.size v L ∧ Below w.heap.size w w' := by
  have hl := len_max h.asc_
  have HA : Hid (Calls Tryz.prog 167 #[.slice none 0 0, .func (.func 128) #[] #[.pointer (some ⟨Bm, 0, none⟩)]] w fun e w' => ∃ v L, e = .returned v ∧ L.Perm M ∧ OwnE w' w.heap.size v L ∧ Below w.heap.size w w') :=
    callsIn_wide.1 (dl_append Fence.wide 5 trivial rfl (by omega) _ _ trivial (enters_of Tryz.func128 (by kernel_rfl) rfl) _ _ M.length (by omega) w (dl_stops Fence.wide 4 trivial rfl (by omega) Bm b M w hBm hm h))
  clear h hm
  go_enter Tryz.func126, Tryz.ntmps126
  go_wp2_with (go_at_call 167; refine HA.out.mono ?_; rintro e w' ⟨v, L, rfl, hp, ho, hb⟩)
  go_ret
  exact ⟨v, L, rfl, hp, ho, hb⟩
theorem below_row {w w1 w2 : World} {B : Nat} {v : Value} {L : List En} (hb : Below B w w1) (hB : B ≤ w1.heap.size) (ho : OwnE w1 B v L) (hg : w1.grownBy w2 v.ownBlock) : Below B w w2 :=
  hb.grown hg hB (fun k hk => (ho.lt k hk).1)
theorem dl_sorted (w : World) (b Bm : Nat) (M : List En) (h : MapE w b M) (hBm : Bm < w.heap.size) (hm : w.cell? ⟨Bm, 0, none⟩ = some (.map (some b))) :
    Calls Tryz.prog 92 #[.func (.func 128) #[] #[.pointer (some ⟨Bm, 0, none⟩)], .func (.func 94) #[] #[]] w fun e w' => ∃ v, e = .returned v ∧ OwnE w' w.heap.size v M ∧ Below w.heap.size w w' := by
  have hl := len_max h.asc_
  have HR : Hid (rise (-1) M) := h.asc_
  have HC : Hid (Calls Tryz.prog 126 #[.func (.func 128) #[] #[.pointer (some ⟨Bm, 0, none⟩)]] w fun e w' => ∃ v L, e = .returned v ∧ L.Perm M ∧ OwnE w' w.heap.size v L ∧ Below w.heap.size w w') := dl_collect w b Bm M h hBm hm
  clear h hm
  go_enter Tryz.func92, Tryz.ntmps92
  go_wp2_with (go_at_call 126; refine HC.out.mono ?_; rintro e w1 ⟨v, L, rfl, hp, ho, hb⟩)
  refine (sortE_any w1 _ v L ho (by have := hp.length_eq; omega)).mono ?_
  rintro e w2 ⟨rfl, S, p1, p2, o2, g2⟩
  have eS : S = M := rise_only HR.out (hp.symm.trans p1.symm) p2
  subst eS
  have b2 := below_row hb hb.size ho g2
  go_wp2_with fail
  go_ret
  exact ⟨v, rfl, o2, b2⟩
theorem dl_rising (w : World) (b : Nat) (M : List En) (h : MapE w b M) :
    Calls Tryz.prog 55 #[.map (some b)] w fun e w' => ∃ v, e = .returned v ∧ OwnE w' w.heap.size v M ∧ Below w.heap.size w w' := by
  have hb0 : Below w.heap.size w (w.alloc (.cells #[.map (some b)] 107)) := (Below.refl _ _).alloc (Nat.le_refl _) _
  have HS : Hid (Calls Tryz.prog 92 #[.func (.func 128) #[] #[.pointer (some ⟨w.heap.size, 0, none⟩)], .func (.func 94) #[] #[]] (w.alloc (.cells #[.map (some b)] 107)) fun e w' => ∃ v, e = .returned v ∧ OwnE w' (w.alloc (.cells #[.map (some b)] 107)).heap.size v M ∧ Below (w.alloc (.cells #[.map (some b)] 107)).heap.size (w.alloc (.cells #[.map (some b)] 107)) w') :=
    dl_sorted _ b w.heap.size M (h.alloc _) (by simp) ((Blk.new w #[.map (some b)] 107 rfl).cell 0 _ rfl)
  have HB : Hid (Below w.heap.size w (w.alloc (.cells #[.map (some b)] 107))) := hb0
  clear h hb0
  go_enter Tryz.func55, Tryz.ntmps55
  go_wp2_with (first | (go_at_call 93; refine (dl_values _ b).mono ?_; rintro e w1 ⟨rfl, rfl⟩) | (go_at_call 92; refine HS.out.mono ?_; rintro e w2 ⟨v, rfl, ho, hb⟩))
  go_ret
  exact ⟨v, rfl, ho.mono HB.out.size, bthen HB.out hb⟩
end Go.Proofs.YtokegpajjicehaaGreat
