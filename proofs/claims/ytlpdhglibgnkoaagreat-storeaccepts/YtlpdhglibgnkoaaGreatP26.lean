/-
  Texts Sg3, Sg4, Sg5 in one.
-/
import Derived.Shelf.Spec.SlicesInsert
import Derived.Lib.AppendZerosOnto
import Derived.Laws.NewBlocks
import Derived.Test.YtlpdhglibgnkoaaGreatP25
namespace Go.Proofs.YtlpdhglibgnkoaaGreat
open Go.RowKit
set_option linter.unusedVariables false
set_option maxRecDepth 20000
section
variable {P : Program}
/-- 'copy(d, s)' of elements of whatever size. -/
theorem run_copy_sz (w : World) (dT sT ty elem : TypeId) (b o dLen dCap : Nat) (a : Addr) (sLen sCap sz n : Nat) (cs : List Value)
    (hu : P.underlying dT = some (.slice elem)) (hs : (P.info? elem).map (·.size) = some sz) (hm : Nat.min sLen dLen = n) (hn : cs.length = n * sz)
    (hsrc : ∀ j v, cs[j]? = some v → w.cell? (a.add j) = some v) (hc : ∀ j, j < cs.length → (w.cell? ⟨b, o + j, none⟩).isSome = true) (hf : ∀ j, j < cs.length → w.frozen? ⟨b, o + j, none⟩ = false) (h1 : ∀ v ∈ cs, v.oneCell' = true) :
    (Builtin.copy_ #[dT, sT] ty #[.slice (some ⟨b, o, none⟩) dLen dCap, .slice (some a) sLen sCap]).run P w = .ok (goInt n) (w.setCells b o cs) := by
  have hl := run_loadCells_list (P := P) w a cs hsrc
  have hst := run_storeCells_cells (P := P) b o cs 0 w (by simpa using hc) (by simpa using hf) h1
  cases hq : P.info? elem with
  | none => simp [hq] at hs
  | some i =>
    have hi : i.size = sz := by simpa [hq] using hs
    rw [hn] at hl
    simp [Builtin.copy_, run_underlying hu, Builtin.lenOf, Builtin.firstCells, sizeOf, typeInfo, hq, hi, hm, hl, hst]
/-- 'clear(s)' of one element. -/
theorem run_clear_one (w : World) (t e ty : TypeId) (z : Value) (ht : P.underlying t = some (.slice e)) (hv : ∀ w, (zeroValue e).run P w = .ok z w) (b o c : Nat)
    (hc : ∀ j, j < z.cells.size → (w.cell? ⟨b, o + j, none⟩).isSome = true) (hf : ∀ j, j < z.cells.size → w.frozen? ⟨b, o + j, none⟩ = false) (h1 : ∀ v ∈ z.cells.toList, v.oneCell' = true) :
    (Builtin.clear_ #[t] ty #[.slice (some ⟨b, o, none⟩) 1 c]).run P w = .ok (.tuple #[]) (w.setCells b o z.cells.toList) := by
  have hzc : (Builtin.zeroCells z.cells 1).toList = z.cells.toList := by
    apply List.ext_getElem
    · simp [Builtin.zeroCells]
    · intro i h3 h4
      have : i < z.cells.size := by simpa using h4
      simp [Builtin.zeroCells, Nat.mod_eq_of_lt this, this]
  have hst := run_storeCells_cells (P := P) b o z.cells.toList 0 w (by simpa using hc) (by simpa using hf) h1
  simp only [Nat.add_zero] at hst
  simp [Builtin.clear_, run_underlying ht, hv, hzc, hst]
/-- 'append(s, x...)' of one pair. -/
theorem growP_op {w : World} {o : Oper} {a : Act} {K : Act → World → Prop} {Q : Exit → Act → World → Prop} (t e : TypeId) (zr : Value) (by_ : Nat) (ht : P.underlying t = some (.slice e)) (hz : (P.info? e).map (fun i => (i.zero, i.size, i.bytes)) = some (some zr, 4, by_)) (hby : by_ ≤ 64) (hzr : zr.cells.size = 4) (s x : Operand)
    (ho : o.op = .call { callee := .builtin .append, args := #[s, x], argTypes := #[t, t] })
    (B : Nat) (v : Value) (L : List Pr) (hs : a.eval s = v) (hown : OwnP e w B v L) (g0 o0 : Nat) (p : Pr) (c0 : Nat) (hx : a.eval x = .slice (some ⟨g0, o0, none⟩) 1 c0)
    (hr0 : w.cell? ⟨g0, o0, none⟩ = some (.int .i64 p.1)) (hr1 : w.cell? ⟨g0, o0 + 1, none⟩ = some (t0 p.2)) (hr2 : w.cell? ⟨g0, o0 + 2, none⟩ = some (t1 p.2)) (hr3 : w.cell? ⟨g0, o0 + 3, none⟩ = some (t2 p.2)) (h1 : Trio p.2) (hlen : L.length ≤ 1000000) (hB : B ≤ w.heap.size)
    (h : ∀ v' w', OwnP e w' B v' (L ++ [p]) → Grow B v w v' w' → K (a.put o.dst v') w') : o.wp P a w K Q := by
  obtain ⟨i0, hi, hz0, hz1, hz2⟩ := info_parts hz
  have hm : (L.length + 1) * by_ ≤ (L.length + 1) * 64 := Nat.mul_le_mul_left _ hby
  refine wp_append_lies w s x t ho B e i0 zr 4 by_ ht hi hz0 hz1 hz2 hzr (by decide) v L.length (prs L) hs hown ⟨g0, o0, none⟩ 1 c0 (prs [p]) hx rfl (fun j u hu => ?_) (Ones.cells (fun q hq => by rw [List.mem_singleton.1 hq]; exact h1)) (by omega) (by unfold maxLen; omega) (by omega) hB w.heap.size rfl ?_
  · rw [prs_cons, prs_nil] at hu
    rw [Addr.add_lit]
    rcases j with _ | _ | _ | _ | j
    · simp at hu; subst hu; exact hr0
    · simp at hu; subst hu; exact hr1
    · simp at hu; subst hu; exact hr2
    · simp at hu; subst hu; exact hr3
    · simp at hu
  intro g cap' w' hown' hgrow hor hlt
  refine h _ w' ?_ ⟨(Below.refl B w).grown hgrow hB (fun k hk => (hown.lt k hk).1), hgrow, ?_⟩
  · unfold OwnP
    rw [List.length_append, prs_app]
    exact hown'
  · rcases hor with e | e
    · exact Or.inl e.symm
    · right; rw [e]; rfl
theorem growP_wp {w : World} {ops : Array Oper} {rest : List Oper} {o : Oper} {a : Act} {Q : Exit → Act → World → Prop} (hgd : o.guard = none) (t e : TypeId) (zr : Value) (by_ : Nat) (ht : P.underlying t = some (.slice e)) (hz : (P.info? e).map (fun i => (i.zero, i.size, i.bytes)) = some (some zr, 4, by_)) (hby : by_ ≤ 64) (hzr : zr.cells.size = 4) (s x : Operand)
    (ho : o.op = .call { callee := .builtin .append, args := #[s, x], argTypes := #[t, t] })
    (B : Nat) (v : Value) (L : List Pr) (hs : a.eval s = v) (hown : OwnP e w B v L) (g0 o0 : Nat) (p : Pr) (c0 : Nat) (hx : a.eval x = .slice (some ⟨g0, o0, none⟩) 1 c0)
    (hr0 : w.cell? ⟨g0, o0, none⟩ = some (.int .i64 p.1)) (hr1 : w.cell? ⟨g0, o0 + 1, none⟩ = some (t0 p.2)) (hr2 : w.cell? ⟨g0, o0 + 2, none⟩ = some (t1 p.2)) (hr3 : w.cell? ⟨g0, o0 + 3, none⟩ = some (t2 p.2)) (h1 : Trio p.2) (hlen : L.length ≤ 1000000) (hB : B ≤ w.heap.size)
    (h : ∀ v' w', OwnP e w' B v' (L ++ [p]) → Grow B v w v' w' → wpList P ops Q rest (a.put o.dst v') w') : wpList P ops Q (o :: rest) a w :=
  wpList_plain hgd fun K hK => growP_op t e zr by_ ht hz hby hzr s x ho B v L hs hown g0 o0 p c0 hx hr0 hr1 hr2 hr3 h1 hlen hB fun v' w' h1 h2 => hK _ _ (h v' w' h1 h2)
end
end Go.Proofs.YtlpdhglibgnkoaaGreat

namespace Go.Proofs.YtlpdhglibgnkoaaGreat
open Go.RowKit
set_option linter.unusedVariables false
set_option maxRecDepth 20000
theorem infoP : (Tryz.prog.info? 90).map (fun i => (i.zero, i.size, i.bytes)) = some (some (.agg #[.int .i64 0, .int .i64 0, .int .i64 0, .slice none 0 0]), 4, 48) := by kernel_rfl
theorem zeroP (w : World) : (zeroValue 90).run Tryz.prog w = .ok (.agg #[.int .i64 0, .int .i64 0, .int .i64 0, .slice none 0 0]) w := by kernel_rfl
set_option maxHeartbeats 4000000 in
/-- slices.Insert at the end. -/
theorem ins_endP (w : World) (B : Nat) (hB : B ≤ w.heap.size) (v : Value) (L : List Pr) (hown : OwnP 90 w B v L) (hl : L.length ≤ 1000) (p : Pr) (hx : Trio p.2) (vb : Nat)
    (hvb : w.heap[vb]? = some (.cells #[.int .i64 p.1, t0 p.2, t1 p.2, t2 p.2] 90 (0, 0))) :
    Calls Tryz.prog 53 #[v, .int .i64 (L.length : Nat), .slice (some ⟨vb, 0, none⟩) 1 1] w fun e w' => ∃ v', e = .returned v' ∧ OwnP 90 w' B v' (L ++ [p]) ∧ Grow B v w v' w' := by
  have HO : Hid (OwnP 90 w B v L) := hown
  have c0 : w.cell? ⟨vb, 0, none⟩ = some (.int .i64 p.1) := row_cell hvb 0
  have c1 : w.cell? ⟨vb, 1, none⟩ = some (t0 p.2) := row_cell hvb 1
  have c2 : w.cell? ⟨vb, 2, none⟩ = some (t1 p.2) := row_cell hvb 2
  have c3 : w.cell? ⟨vb, 3, none⟩ = some (t2 p.2) := row_cell hvb 3
  obtain ⟨ao, cap, rfl, h1, h2, h3⟩ := hown.form
  obtain ⟨n, hn⟩ : ∃ n, L.length = n := ⟨_, rfl⟩
  rw [hn] at h1 HO hl ⊢
  have HN := (show Hid _ from hn)
  have HB : Hid (B ≤ w.heap.size) := hB
  clear hn hvb hown hB
  rcases ao with _ | ⟨g, o, sp⟩
  · obtain rfl := h3 rfl
    obtain rfl : n = 0 := by omega
    clear h3
    go_enter Tryz.func53, Tryz.ntmps53
    go_wp2_with (at_builtin; refine growP_wp rfl 70 90 (.agg #[.int .i64 0, .int .i64 0, .int .i64 0, .slice none 0 0]) 48 Tryz.underlying70 infoP (by decide) (by rfl) _ _ rfl B _ L rfl (by exact HO.out) vb 0 p 1 rfl c0 c1 c2 c3 hx (by rw [HN.out]; omega) HB.out ?_; intro v' w' o1 g1)
    go_ret
    exact ⟨_, rfl, o1, g1⟩
  clear h3
  by_cases hcn : cap = n
  · subst hcn
    go_enter Tryz.func53, Tryz.ntmps53
    go_wp2_with (at_builtin; refine growP_wp rfl 70 90 (.agg #[.int .i64 0, .int .i64 0, .int .i64 0, .slice none 0 0]) 48 Tryz.underlying70 infoP (by decide) (by rfl) _ _ rfl B (.slice (some ⟨g, o, sp⟩) cap cap) L rfl (by exact HO.out) vb 0 p 1 rfl c0 c1 c2 c3 hx (by rw [HN.out]; omega) HB.out ?_; intro v' w' o1 g1)
    go_ret
    exact ⟨_, rfl, o1, g1⟩
  · go_enter Tryz.func53, Tryz.ntmps53
    go_wp2_with (at_builtin; refine growP_wp rfl 70 90 (.agg #[.int .i64 0, .int .i64 0, .int .i64 0, .slice none 0 0]) 48 Tryz.underlying70 infoP (by decide) (by rfl) _ _ rfl B (.slice (some ⟨g, o, sp⟩) n cap) L rfl (by exact HO.out) vb 0 p 1 rfl c0 c1 c2 c3 hx (by rw [HN.out]; omega) HB.out ?_; intro v' w' o1 g1)
    go_ret
    exact ⟨_, rfl, o1, g1⟩
set_option maxHeartbeats 4000000 in
/-- slices.Insert between, where there is room. -/
theorem ins_roomP (w : World) (B : Nat) (L : List Pr) (hones : Ones L) (g cap : Nat) (cur : Array Value) (hg : w.heap[g]? = some (.cells cur 90 (0, 0))) (hBg : B ≤ g) (hcs : cur.size = cap * 4) (htk : cur.toList.take (L.length * 4) = prs L)
    (hl : L.length ≤ 1000) (i : Nat) (hi : i < L.length) (hroom : L.length + 1 ≤ cap) (hm : cap ≤ 9223372036854775807) (p : Pr) (hx : Trio p.2) (vb : Nat)
    (hvb : w.heap[vb]? = some (.cells #[.int .i64 p.1, t0 p.2, t1 p.2, t2 p.2] 90 (0, 0))) (hne : vb ≠ g) :
    Calls Tryz.prog 53 #[.slice (some ⟨g, 0, none⟩) L.length cap, .int .i64 i, .slice (some ⟨vb, 0, none⟩) 1 1] w fun e w' => e = .returned (.slice (some ⟨g, 0, none⟩) (L.length + 1) cap) ∧ OwnP 90 w' B (.slice (some ⟨g, 0, none⟩) (L.length + 1) cap) (L.take i ++ p :: L.drop i) ∧ w.grownBy w' (some g) := by
  have hsz : (Tryz.prog.info? 90).map (·.size) = some 4 := by
    obtain ⟨i0, hi0, h0, h1, h2⟩ := info_parts infoP
    rw [hi0]; simp [h1]
  have c0 : w.cell? ⟨vb, 0, none⟩ = some (.int .i64 p.1) := row_cell hvb 0
  have c1 : w.cell? ⟨vb, 1, none⟩ = some (t0 p.2) := row_cell hvb 1
  have c2 : w.cell? ⟨vb, 2, none⟩ = some (t1 p.2) := row_cell hvb 2
  have c3 : w.cell? ⟨vb, 3, none⟩ = some (t2 p.2) := row_cell hvb 3
  have hov : ∀ o lb cb, (callFunc 88 #[.slice (some ⟨vb, 0, none⟩) 1 1, .slice (some ⟨g, o, none⟩) lb cb]).run Tryz.prog w = .ok (.value (.bool false)) w := fun o lb cb => by
    rw [run_callFunc_extern Tryz.func88 (by kernel_rfl) (by kernel_rfl) (by kernel_rfl) (e := Extern.SlicesOverlaps.overlaps #[70, 70] #[4]) (by kernel_rfl),
      Lib.run_overlaps_apart w 70 4 90 Tryz.underlying70 4 Tryz.sizeOf90 ⟨vb, 0, none⟩ ⟨g, o, none⟩ 1 1 lb cb hne 90 90 4 cur.size (by simp [World.shape?, hvb]) (by simp [World.shape?, hg]) (by omega) (row_froz hvb 0) (row_froz hvb 4)]
    rfl
  have hcell : ∀ j, j < cap * 4 → (w.cell? ⟨g, j, none⟩).isSome = true := fun j hj => by
    rw [row_cell hg, Array.getElem?_eq_getElem (by omega)]; rfl
  have hfz : ∀ j, w.frozen? ⟨g, j, none⟩ = false := fun j => row_froz hg j
  have hld : (L.drop i).length = L.length - i := by simp
  have hpd : (prs (L.drop i)).length = (L.length - i) * 4 := by rw [prs_len, hld]
  have hcp1 : ∀ ty dc sc, (Builtin.copy_ #[70, 70] ty #[.slice (some ⟨g, (i + 1) * 4, none⟩) (L.length - i) dc, .slice (some ⟨g, i * 4, none⟩) (L.length + 1 - i) sc]).run Tryz.prog w.drew = .ok (goInt ((L.length - i : Nat) : Int)) (w.drew.setCells g ((i + 1) * 4) (prs (L.drop i))) := fun ty dc sc =>
    run_copy_sz w.drew _ _ ty 90 g ((i + 1) * 4) _ dc ⟨g, i * 4, none⟩ _ sc 4 (L.length - i) (prs (L.drop i)) Tryz.underlying70 hsz (by simp only [Nat.min_def]; split <;> omega) hpd
      (fun j u hj => by
        rw [Addr.add_lit]
        rw [← prs_drop, List.getElem?_drop] at hj
        exact row_at (w := w) hg (by omega) hcs htk _ _ hj)
      (fun j hj => hcell _ (by omega)) (fun j hj => hfz _) (hones.drop i).cells
  obtain ⟨W1, hW1⟩ : ∃ W1, w.drew.setCells g ((i + 1) * 4) (prs (L.drop i)) = W1 := ⟨_, rfl⟩
  have hcp2 : ∀ (W : World), (∀ x, W.cell? x = W1.cell? x) → (∀ x, W.frozen? x = W1.frozen? x) → ∀ ty dc, (Builtin.copy_ #[70, 70] ty #[.slice (some ⟨g, i * 4, none⟩) (L.length + 1 - i) dc, .slice (some ⟨vb, 0, none⟩) 1 1]).run Tryz.prog W = .ok (goInt ((1 : Nat) : Int)) (W.setCells g (i * 4) (prC p)) := fun W hWc hWf ty dc =>
    run_copy_sz W _ _ ty 90 g (i * 4) _ dc ⟨vb, 0, none⟩ _ 1 4 1 (prC p) Tryz.underlying70 hsz (by simp only [Nat.min_def]; split <;> omega) rfl
      (fun j u hj => by
        rw [Addr.add_lit, Nat.zero_add, hWc, ← hW1, World.cell?_setCells_out g _ _ _ _ (fun h _ => absurd h hne)]
        unfold prC at hj
        rcases j with _ | _ | _ | _ | j
        · simp at hj; subst hj; exact c0
        · simp at hj; subst hj; exact c1
        · simp at hj; subst hj; exact c2
        · simp at hj; subst hj; exact c3
        · simp at hj)
      (fun j hj => by rw [hWc, ← hW1]; exact isSome_setCells g (prs (L.drop i)) ((i + 1) * 4) w.drew (fun t ht => hcell ((i + 1) * 4 + t) (by rw [hpd] at ht; omega)) (i * 4 + j) (hcell (i * 4 + j) (by rw [prC_len] at hj; omega))) (fun j hj => by rw [hWf, ← hW1, World.frozen?_setCells]; exact hfz _)
      (prC_one hx)
  rw [hW1] at hcp1
  have FIN : Hid (OwnP 90 (W1.setCells g (i * 4) (prC p)) B (.slice (some ⟨g, 0, none⟩) (L.length + 1) cap) (L.take i ++ p :: L.drop i) ∧ w.grownBy (W1.setCells g (i * 4) (prC p)) (some g)) :=
    ⟨laid_row (w := w.drew) hg hBg hm hcs hroom htk i (by omega) p _ W1 hW1.symm W1 rfl rfl, by rw [← hW1]; exact grown_trans ((grown_drew (grown_refl w _))) (grown_trans (grown_setCells g _ _ _) (grown_setCells g _ _ _))⟩
  obtain ⟨n, hn⟩ : ∃ n, L.length = n := ⟨_, rfl⟩
  obtain ⟨pd, hpdd⟩ : ∃ pd, prs (L.drop i) = pd := ⟨_, rfl⟩
  rw [hn] at hl hi hroom hcp1 hcp2 FIN ⊢
  have hz1 : ¬ ((i : Int) = (n : Int)) := by omega
  have hw1 : IntKind.i64.wrap ((i : Int) + 1) = (i : Int) + 1 := by rw [IntKind.wrap_i64]; omega
  have htn : ((i : Int) + 1).toNat = i + 1 := by omega
  have hb1 : (0 : Int) ≤ (i : Int) + 1 := by omega
  have hb2 : ¬ (cap = i + 1) := by omega
  have hb3 : (i : Int) ≤ (n : Int) + 1 := by omega
  have hb4 : ¬ (cap = i) := by omega
  have hin : i ≤ n := by omega
  clear hn hpdd hW1 hpd hld hfz hcell c0 c1 c2 c3 hvb hg htk hcs hones
  go_enter Tryz.func53, Tryz.ntmps53
  go_wp2_with (simp only [hov])
  go_region_law (refine step_copy_runI rfl _ _ 70 70 rfl _ _ (by simp [Act.eval, Act.put]) (by simp [Act.eval, Act.put]) (hcp1 _ _ _) ?_)
  go_wp2_with (at_builtin; refine wpList_copy_runI _ rfl _ _ 70 70 rfl _ _ rfl rfl (hcp2 _ (fun _ => rfl) (fun _ => rfl) _ _) ?_)
  go_ret
  exact ⟨rfl, FIN.out⟩
set_option maxHeartbeats 4000000 in
/-- slices.Insert between, where there is no room. -/
theorem ins_growP (w : World) (B : Nat) (hB : B ≤ w.heap.size) (L : List Pr) (hones : Ones L) (g cap : Nat) (cur : Array Value) (hg : w.heap[g]? = some (.cells cur 90 (0, 0))) (hcs : cur.size = cap * 4) (htk : cur.toList.take (L.length * 4) = prs L)
    (hl : L.length ≤ 1000) (i : Nat) (hi : i < L.length) (hnc : L.length ≤ cap) (hroom : cap < L.length + 1) (p : Pr) (hx : Trio p.2) (vb : Nat)
    (hvb : w.heap[vb]? = some (.cells #[.int .i64 p.1, t0 p.2, t1 p.2, t2 p.2] 90 (0, 0))) :
    Calls Tryz.prog 53 #[.slice (some ⟨g, 0, none⟩) L.length cap, .int .i64 i, .slice (some ⟨vb, 0, none⟩) 1 1] w fun e w' => ∃ v', e = .returned v' ∧ OwnP 90 w' B v' (L.take i ++ p :: L.drop i) ∧ Grow B (.slice (some ⟨g, 0, none⟩) L.length cap) w v' w' := by
  obtain ⟨i0, hi0, hz0, hzs, hzb⟩ := info_parts infoP
  have hsz : (Tryz.prog.info? 90).map (·.size) = some 4 := by rw [hi0]; simp [hzs]
  have hgw : g < w.heap.size := (Array.getElem?_eq_some_iff.1 hg).1
  have hvw : vb < w.heap.size := (Array.getElem?_eq_some_iff.1 hvb).1
  have hold : (Builtin.firstCells i0.size i (.slice (some ⟨g, 0, none⟩) i cap)).run Tryz.prog w.drew = .ok (prs (L.take i)).toArray w.drew := by
    rw [hzs]
    refine run_firstCells_some w.drew 4 i ⟨g, 0, none⟩ i cap (prs (L.take i)) (by rw [prs_len, List.length_take]; omega) (fun j u hj => ?_)
    rw [Addr.add_lit, Nat.zero_add]
    rw [← prs_take, List.getElem?_take] at hj
    split at hj
    · exact row_at (w := w) hg hnc hcs htk _ _ hj
    · cases hj
  have hge := grownCap_ge w (L.length + 1) cap 90
  have hle := grownCap_le_maxLen w (L.length + 1) cap 90 (by unfold maxLen; omega)
  have hik : i + (L.length + 1 - i) = L.length + 1 := by omega
  have hrz : ∀ ty, (Builtin.append_ #[70, 3] ty #[.slice (some ⟨g, 0, none⟩) i cap, .int .i64 ((L.length : Int) + 1 - (i : Int))]).run Tryz.prog w = .ok (.slice (some ⟨w.heap.size, 0, none⟩) (L.length + 1) (grownCap w (L.length + 1) cap 90)) (w.drew.alloc (.cells ((prs (L.take i)).toArray ++ Builtin.zeroCells (Value.agg #[.int .i64 0, .int .i64 0, .int .i64 0, .slice none 0 0]).cells (L.length + 1 - i) ++ Builtin.zeroCells (Value.agg #[.int .i64 0, .int .i64 0, .int .i64 0, .slice none 0 0]).cells (grownCap w (L.length + 1) cap 90 - (L.length + 1))) 90)) := fun ty => by
    have h := Lib.run_append_grow_zeros (P := Tryz.prog) w 70 3 ty 90 i0 (.agg #[.int .i64 0, .int .i64 0, .int .i64 0, .slice none 0 0]) .i64 .i64 Tryz.underlying70 Tryz.underlying3 hi0 hz0 (some ⟨g, 0, none⟩) i cap (prs (L.take i)) hold (L.length + 1 - i) (by omega) (by omega) (by omega) (by omega) (by rw [hzb]; omega) (by rw [hzb, hik]; exact growslice_fits hroom (by omega))
    rw [hik, show (((L.length + 1 - i : Nat) : Int)) = (L.length : Int) + 1 - (i : Int) by omega] at h
    exact h
  obtain ⟨G, hG⟩ : ∃ G, grownCap w (L.length + 1) cap 90 = G := ⟨_, rfl⟩
  rw [hG] at hrz hge hle
  obtain ⟨ROW, hROW⟩ : ∃ ROW : Array Value, (prs (L.take i)).toArray ++ Builtin.zeroCells (Value.agg #[.int .i64 0, .int .i64 0, .int .i64 0, .slice none 0 0]).cells (L.length + 1 - i) ++ Builtin.zeroCells (Value.agg #[.int .i64 0, .int .i64 0, .int .i64 0, .slice none 0 0]).cells (G - (L.length + 1)) = ROW := ⟨_, rfl⟩
  rw [hROW] at hrz
  have hz2 : (Value.agg #[.int .i64 0, .int .i64 0, .int .i64 0, .slice none 0 0]).cells.size = 4 := by rfl
  have hpt : (prs (L.take i)).length = i * 4 := by rw [prs_len, List.length_take]; omega
  have hRs : ROW.size = G * 4 := by
    rw [← hROW, Array.size_append, Array.size_append, zeros_len, zeros_len, hz2, List.size_toArray, hpt]; omega
  have hRt : ROW.toList.take (i * 4) = prs (L.take i) := by
    rw [← hROW, Array.toList_append, Array.toList_append, List.append_assoc]
    exact take_app_len _ _ _ hpt
  obtain ⟨H, hH⟩ : ∃ H, w.heap.size = H := ⟨_, rfl⟩
  obtain ⟨W1, hW1⟩ : ∃ W1, w.drew.alloc (.cells ROW 90) = W1 := ⟨_, rfl⟩
  have hR1 : W1.heap[H]? = some (.cells ROW 90 (0, 0)) := by rw [← hW1, ← hH]; exact heap_alloc_new w.drew _
  have gW1 : w.grownBy W1 (some g) := by rw [← hW1]; exact grown_trans (grown_drew (grown_refl w _)) (World.grownBy_alloc w.drew _ _)
  rw [hW1, hH] at hrz
  have hOb : ∀ b j v, b < H → w.cell? ⟨b, j, none⟩ = some v → W1.cell? ⟨b, j, none⟩ = some v := fun b j v hb h => by rw [← hW1, World.cell?_alloc_past (w := w.drew) _ b j (by show b < w.heap.size; omega)]; exact h
  have c0 : W1.cell? ⟨vb, 0, none⟩ = some (.int .i64 p.1) := hOb _ _ _ (by omega) (row_cell hvb 0)
  have c1 : W1.cell? ⟨vb, 1, none⟩ = some (t0 p.2) := hOb _ _ _ (by omega) (row_cell hvb 1)
  have c2 : W1.cell? ⟨vb, 2, none⟩ = some (t1 p.2) := hOb _ _ _ (by omega) (row_cell hvb 2)
  have c3 : W1.cell? ⟨vb, 3, none⟩ = some (t2 p.2) := hOb _ _ _ (by omega) (row_cell hvb 3)
  have hgH : g ≠ H := by omega
  have hvH : vb ≠ H := by omega
  have hcell : ∀ j, j < G * 4 → (W1.cell? ⟨H, j, none⟩).isSome = true := fun j hj => by
    rw [row_cell hR1, Array.getElem?_eq_getElem (by omega)]; rfl
  have hfz : ∀ j, W1.frozen? ⟨H, j, none⟩ = false := fun j => row_froz hR1 j
  have hcpA : ∀ ty dc, (Builtin.copy_ #[70, 70] ty #[.slice (some ⟨H, i * 4, none⟩) (L.length + 1 - i) dc, .slice (some ⟨vb, 0, none⟩) 1 1]).run Tryz.prog W1 = .ok (goInt ((1 : Nat) : Int)) (W1.setCells H (i * 4) (prC p)) := fun ty dc =>
    run_copy_sz W1 _ _ ty 90 H (i * 4) _ dc ⟨vb, 0, none⟩ _ 1 4 1 (prC p) Tryz.underlying70 hsz (by simp only [Nat.min_def]; split <;> omega) rfl
      (fun j u hj => by
        rw [Addr.add_lit, Nat.zero_add]
        unfold prC at hj
        rcases j with _ | _ | _ | _ | j
        · simp at hj; subst hj; exact c0
        · simp at hj; subst hj; exact c1
        · simp at hj; subst hj; exact c2
        · simp at hj; subst hj; exact c3
        · simp at hj)
      (fun j hj => hcell _ (by rw [prC_len] at hj; omega)) (fun j hj => hfz _)
      (prC_one hx)
  obtain ⟨W2, hW2⟩ : ∃ W2, W1.setCells H (i * 4) (prC p) = W2 := ⟨_, rfl⟩
  rw [hW2] at hcpA
  have hld : (L.drop i).length = L.length - i := by simp
  have hpd : (prs (L.drop i)).length = (L.length - i) * 4 := by rw [prs_len, hld]
  have hcpB : ∀ ty dc sc, (Builtin.copy_ #[70, 70] ty #[.slice (some ⟨H, (i + 1) * 4, none⟩) (L.length - i) dc, .slice (some ⟨g, i * 4, none⟩) (L.length - i) sc]).run Tryz.prog W2.drew = .ok (goInt ((L.length - i : Nat) : Int)) (W2.drew.setCells H ((i + 1) * 4) (prs (L.drop i))) := fun ty dc sc =>
    run_copy_sz W2.drew _ _ ty 90 H ((i + 1) * 4) _ dc ⟨g, i * 4, none⟩ _ sc 4 (L.length - i) (prs (L.drop i)) Tryz.underlying70 hsz (by simp only [Nat.min_def]; split <;> omega) hpd
      (fun j u hj => by
        rw [Addr.add_lit]
        rw [← prs_drop, List.getElem?_drop] at hj
        show W2.cell? _ = _
        rw [← hW2, World.cell?_setCells_out H _ _ _ _ (fun h _ => absurd h hgH)]
        exact hOb _ _ _ (by omega) (row_at (w := w) hg hnc hcs htk _ _ hj))
      (fun j hj => by
        show (W2.cell? _).isSome = true
        rw [← hW2]; exact isSome_setCells H (prC p) (i * 4) W1 (fun t ht => hcell (i * 4 + t) (by rw [prC_len] at ht; omega)) ((i + 1) * 4 + j) (hcell ((i + 1) * 4 + j) (by rw [hpd] at hj; omega)))
      (fun j hj => by show W2.frozen? _ = _; rw [← hW2, World.frozen?_setCells]; exact hfz _) (hones.drop i).cells
  obtain ⟨W3, hW3⟩ : ∃ W3, W2.drew.setCells H ((i + 1) * 4) (prs (L.drop i)) = W3 := ⟨_, rfl⟩
  rw [hW3] at hcpB
  have hG63 : G ≤ 9223372036854775807 := by unfold maxLen at hle; omega
  have g3 : w.grownBy W3 (some g) := by
    rw [← hW3]
    refine grown_past (g := H) (w' := W2.drew) (grown_drew ?_) (grown_setCells H _ _ _) (by omega)
    rw [← hW2]
    exact grown_past gW1 (grown_setCells H _ _ _) (by omega)
  have FIN : Hid (OwnP 90 W3 B (.slice (some ⟨H, 0, none⟩) (L.length + 1) G) (L.take i ++ p :: L.drop i) ∧ w.grownBy W3 (some g)) :=
    ⟨new_row hR1 (by omega) hG63 hRs hge i (by omega) hRt p W3 W2 hW2.symm W2.drew rfl hW3.symm, g3⟩
  have b3 : Hid (∀ B', B' ≤ g → B' ≤ w.heap.size → Below B' w W3) := fun B' h1 h2 => (Below.refl B' w).grown g3 h2 (fun k hk => by injection hk with hk; omega)
  have b4 : Hid (Below B w W3) := by
    refine ⟨g3.os, g3.tape, g3.output, g3.size, fun k hk => ?_⟩
    have e3 : W3.heap[k]? = W2.heap[k]? := by rw [← hW3]; exact World.heap_setCells_other W2.drew H _ _ (by show k < W2.heap.size; rw [← hW2]; have := (grown_setCells H (prC p) (i * 4) W1).size; have := gW1.size; omega) (by omega)
    have e2 : W2.heap[k]? = W1.heap[k]? := by rw [← hW2]; exact World.heap_setCells_other W1 H _ _ (by have := gW1.size; omega) (by omega)
    have e1 : W1.heap[k]? = w.heap[k]? := by rw [← hW1]; exact heap_alloc_old w.drew _ (by show k < w.heap.size; omega)
    rw [e3, e2, e1]
  obtain ⟨n, hn⟩ : ∃ n, L.length = n := ⟨_, rfl⟩
  rw [hn] at hl hi hroom hnc hrz hcpA hcpB FIN hge ⊢
  have HHH : Hid (w.heap.size = H) := hH
  have hz1 : ¬ ((i : Int) = (n : Int)) := by omega
  have hz3 : (cap : Int) < (n : Int) + 1 := by omega
  have hw1 : IntKind.i64.wrap ((i : Int) + 1) = (i : Int) + 1 := by rw [IntKind.wrap_i64]; omega
  have htn : ((i : Int) + 1).toNat = i + 1 := by omega
  have hb1 : (0 : Int) ≤ (i : Int) + 1 := by omega
  have hb2 : ¬ (G = i + 1) := by omega
  have hb3 : (i : Int) ≤ (n : Int) + 1 := by omega
  have hb4 : ¬ (cap = i) := by omega
  have hb5 : ¬ (G = i) := by omega
  have hin : i ≤ n := by omega
  have hiG : i ≤ G := by omega
  have hic : i ≤ cap := by omega
  clear hn hW1 hW2 hW3 hpd hld hfz hcell c0 c1 c2 c3 hvb hg htk hcs hones hOb gW1 hR1 hRt hRs hpt hz2 hROW hG hold hi0 hz0 hzs hzb hsz hgw hvw hH hgH hvH g3 hik hle
  go_enter Tryz.func53, Tryz.ntmps53
  go_wp2_with (first
    | (at_builtin; refine Lib.wpList_append_run _ rfl _ _ _ _ rfl _ _ rfl rfl _ _ (hrz _) ?_)
    | (at_builtin; refine wpList_copy_runI _ rfl _ _ 70 70 rfl _ _ rfl rfl (hcpA _ _) ?_))
  go_region_law (refine step_copy_runI rfl _ _ 70 70 rfl _ _ (by simp [Act.eval, Act.put]) (by simp [Act.eval, Act.put]) (hcpB _ _ _) ?_)
  go_wp2_with fail
  go_ret
  exact ⟨_, rfl, FIN.out.1, ⟨b4.out, FIN.out.2, Or.inr (by rw [HHH.out]; rfl)⟩⟩
set_option maxHeartbeats 4000000 in
/-- slices.Delete of the first one. -/
theorem del_oneP (w : World) (B : Nat) (L : List Pr) (hones : Ones L) (m : Nat) (hn : L.length = m + 1) (g cap : Nat) (hown : OwnP 90 w B (.slice (some ⟨g, 0, none⟩) (m + 1) cap) L) (hl : L.length ≤ 1000) :
    Calls Tryz.prog 90 #[.slice (some ⟨g, 0, none⟩) (m + 1) cap, .int .i64 0, .int .i64 1] w fun e w' => e = .returned (.slice (some ⟨g, 0, none⟩) m cap) ∧ OwnP 90 w' B (.slice (some ⟨g, 0, none⟩) m cap) L.tail ∧ w.grownBy w' (some g) := by
  have hL : L ≠ [] := by intro h; rw [h] at hn; simp at hn
  obtain ⟨i0, hi0, hz0, hzs, hzb⟩ := info_parts infoP
  obtain ⟨g', cap', cur, hv, hBg, hg, hc, hm, hcs, htk⟩ := hown.some_ hL
  injection hv with h1 h2 h3; injection h1 with h1; injection h1 with h1 _ _; subst h1; subst h3
  clear h2
  have htl : L.tail.length = m := by rw [List.length_tail]; omega
  have hpt : (prs L.tail).length = m * 4 := by rw [prs_len, htl]
  have hcell : ∀ j, j < cap * 4 → (w.cell? ⟨g, j, none⟩).isSome = true := fun j hj => by
    rw [row_cell hg, Array.getElem?_eq_getElem (by omega)]; rfl
  have hfz : ∀ j, w.frozen? ⟨g, j, none⟩ = false := fun j => row_froz hg j
  have hdrop : (prs L).drop 4 = prs L.tail := by
    have := prs_drop L 1
    rw [List.drop_one] at this
    exact this
  obtain ⟨A, hA, hsrc⟩ : ∃ A : Addr, (if cap = 1 then some (⟨g, 0, none⟩ : Addr) else some ⟨g, 4, none⟩) = some A ∧ Hid (∀ t u, (prs L.tail)[t]? = some u → w.drew.cell? (A.add t) = some u) := by
    by_cases h : cap = 1
    · refine ⟨⟨g, 0, none⟩, by simp [h], fun t u hu => ?_⟩
      have h0 : L.tail = [] := List.eq_nil_of_length_eq_zero (by omega)
      rw [h0, prs_nil] at hu; simp at hu
    · refine ⟨⟨g, 4, none⟩, by simp [h], fun t u hu => ?_⟩
      rw [Addr.add_lit]
      rw [← hdrop, List.getElem?_drop] at hu
      exact row_at (w := w) hg hc hcs htk _ _ hu
  have s1 : Hid ((prs L.tail).length = m * 4) := hpt
  have s2 : Hid (∀ u ∈ prs L.tail, u.oneCell' = true) := hones.tail.cells
  have s3 : Hid (∀ t, t < (prs L.tail).length → (w.drew.cell? ⟨g, 0 + 0 * 4 + t, none⟩).isSome = true ∧ w.drew.frozen? ⟨g, 0 + 0 * 4 + t, none⟩ = false) := fun t ht =>
    ⟨hcell _ (by rw [hpt] at ht; omega), hfz _⟩
  obtain ⟨W1, hW1⟩ : ∃ W1, w.drew.setCells g (0 + 0 * 4) (prs L.tail) = W1 := ⟨_, rfl⟩
  have hW : Hid (w.drew.setCells g (0 + 0 * 4) (prs L.tail) = W1) := hW1
  have hcl : ∀ ty c, (Builtin.clear_ #[70] ty #[.slice (some ⟨g, m * 4, none⟩) 1 c]).run Tryz.prog W1 = .ok (.tuple #[]) (W1.setCells g (m * 4) (Value.agg #[.int .i64 0, .int .i64 0, .int .i64 0, .slice none 0 0]).cells.toList) := fun ty c =>
    run_clear_one W1 _ _ ty _ Tryz.underlying70 zeroP g (m * 4) c
      (fun j hj => by
        have hj' : j < 4 := hj
        rw [← hW1]; exact isSome_setCells g (prs L.tail) (0 + 0 * 4) w.drew (fun t ht => hcell (0 + 0 * 4 + t) (by rw [hpt] at ht; omega)) (m * 4 + j) (hcell (m * 4 + j) (by omega)))
      (fun j hj => by rw [← hW1, World.frozen?_setCells]; exact hfz _)
      (fun u hu => by
        have hu' : u ∈ [Value.int .i64 0, .int .i64 0, .int .i64 0, .slice none 0 0] := hu
        simp only [List.mem_cons, List.not_mem_nil, or_false] at hu'
        rcases hu' with rfl | rfl | rfl | rfl <;> rfl)
  obtain ⟨W2, hW2⟩ : ∃ W2, W1.setCells g (m * 4) (Value.agg #[.int .i64 0, .int .i64 0, .int .i64 0, .slice none 0 0]).cells.toList = W2 := ⟨_, rfl⟩
  rw [hW2] at hcl
  have FIN : Hid (OwnP 90 W2 B (.slice (some ⟨g, 0, none⟩) m cap) L.tail ∧ w.grownBy W2 (some g)) := by
    refine ⟨?_, ?_⟩
    · have := tail_row (w := w.drew) hL hg hBg hm hcs hc W2 W1 hW1.symm W1 rfl (Value.agg #[.int .i64 0, .int .i64 0, .int .i64 0, .slice none 0 0]).cells.toList rfl (by rw [show L.length - 1 = m by omega]; exact hW2.symm)
      rw [show L.length - 1 = m by omega] at this
      exact this
    · rw [← hW2, ← hW1]; exact grown_trans ((grown_drew (grown_refl w _))) (grown_trans (grown_setCells g _ _ _) (grown_setCells g _ _ _))
  have hmc : m + 1 ≤ cap := by omega
  have hm1 : m ≤ 999 := by omega
  have hb1 : ¬ (cap = 0) := by omega
  have hb2 : ¬ (cap = m) := by omega
  have hb3 : (1 : Int) ≤ (m : Int) + 1 := by omega
  have hb4 : 1 ≤ cap := by omega
  have hb5 : m ≤ cap := by omega
  clear hW1 hW2 hpt hcell hfz hdrop hg htk hcs hones hi0 hz0 hzs hzb hown hc hl htl hn
  go_enter Tryz.func90, Tryz.ntmps90
  obtain ⟨i0, hi0, hz0, hzs, hzb⟩ := info_parts infoP
  have H0 : Hid (Tryz.prog.info? 90 = some i0) := hi0
  have H1 : Hid (i0.size = 4) := hzs
  clear hi0 hz0 hzs hzb
  go_wp2_with fail
  go_region_law (refine step_append_room rfl (.tmp 22) (.tmp 25) 70 rfl 90 i0 4 Tryz.underlying70 H0.out H1.out g 0 0 cap (by simp [Act.eval, Act.put]) A m (cap - 1) (prs L.tail) (by simp [Act.eval, Act.put]) s1.out hsrc.out s2.out (by omega) s3.out ?_; rw [hW.out])
  go_wp2_with fail
  go_ret
  exact ⟨rfl, FIN.out⟩
end Go.Proofs.YtlpdhglibgnkoaaGreat

namespace Go.Proofs.YtlpdhglibgnkoaaGreat
open Go.RowKit
set_option linter.unusedVariables false
set_option maxRecDepth 20000

theorem Blk.low {w w' : World} {b B : Nat} {cs : List Value} (h : Blk w b cs) (k : Below B w w') (hB : b < B) : Blk w' b cs :=
  ⟨Nat.lt_of_lt_of_le h.lt k.size, fun o ho => (k.cell (p := ⟨b, o, none⟩) hB).trans (h.all o ho), fun o => (k.frozen (p := ⟨b, o, none⟩) hB).trans (h.froz o)⟩
/-- A box that was just made. -/
theorem boxA {w W : World} {cs : Array Value} {t : TypeId} (h : w.alloc (.cells cs t) = W) : Blk W w.heap.size cs.toList ∧ Below w.heap.size w W ∧ W.heap.size = w.heap.size + 1 ∧ W.heap[w.heap.size]? = some (.cells cs t (0, 0)) := by
  subst h
  exact ⟨Blk.new w _ _ rfl, (Below.refl _ _).alloc (Nat.le_refl _) _, by simp, heap_alloc_new w _⟩
theorem grown_set (w : World) (R o : Nat) (u : Value) : w.grownBy (w.setCell ⟨R, o, none⟩ u) (some R) :=
  ⟨rfl, rfl, rfl, by simp, fun k _ hne => heap_setCell_other w ⟨R, o, none⟩ k u (fun e => hne (by rw [e]))⟩
theorem Blk.grwn {w w' : World} {r : Option Nat} {b : Nat} {cs : List Value} (h : Blk w b cs) (hg : w.grownBy w' r) (hne : some b ≠ r) : Blk w' b cs := by
  have e := hg.block b h.lt hne
  exact ⟨Nat.lt_of_lt_of_le h.lt hg.size, fun o ho => (World.cell?_of_block (w := w) (a := ⟨b, o, none⟩) e).trans (h.all o ho), fun o => (World.frozen?_of_block (w := w) (a := ⟨b, o, none⟩) e).trans (h.froz o)⟩
/-- The ring at block R stands so; its row is v. -/
structure RngV (e : TypeId) (w : World) (B R : Nat) (v : Value) (s : Rs) : Prop where
  blk : Blk w R [.int .i64 (s.M : Nat), v, .int .i64 s.F, .bool s.G]
  own : OwnP e w B v s.L
  ok : s.ok
  ones : Ones s.L
  ne : some R ≠ v.ownBlock
  le : B ≤ R
/-- What a call of a ring leaves alone: all blocks but the ring's own, and its row's. -/
structure Chg (B R : Nat) (v v' : Value) (w w' : World) : Prop where
  below : Below B w w'
  block : ∀ k, k < w.heap.size → k ≠ R → some k ≠ v.ownBlock → w'.heap[k]? = w.heap[k]?
  own : v'.ownBlock = v.ownBlock ∨ ∃ g, v'.ownBlock = some g ∧ w.heap.size ≤ g
theorem Chg.of_below {B R : Nat} {v : Value} {w w' : World} (h : Below w.heap.size w w') (hB : B ≤ w.heap.size) : Chg B R v v w w' :=
  ⟨h.mono hB, fun k hk _ _ => h.block k hk, Or.inl rfl⟩
theorem Chg.of_grow {B R : Nat} {v v' : Value} {w w' : World} (h : Grow B v w v' w') : Chg B R v v' w w' :=
  ⟨h.below, fun k hk _ hv => h.by_.block k hk hv, h.blk.imp id fun e => ⟨_, e, Nat.le_refl _⟩⟩
theorem Chg.of_grown {B R : Nat} {v v' : Value} {w w' : World} (h : w.grownBy w' v.ownBlock) (hv : v'.ownBlock = v.ownBlock) (hB : B ≤ w.heap.size) (hb : ∀ k, v.ownBlock = some k → B ≤ k) : Chg B R v v' w w' :=
  ⟨(Below.refl B w).grown h hB hb, fun k hk _ hv => h.block k hk hv, Or.inl hv⟩
theorem Chg.set {B R o : Nat} {v u : Value} {w : World} (hB : B ≤ R) : Chg B R v v w (w.setCell ⟨R, o, none⟩ u) :=
  ⟨(Below.refl B w).setCell hB u, fun k hk hne _ => heap_setCell_other w ⟨R, o, none⟩ k u (fun e => hne e), Or.inl rfl⟩
theorem Chg.trans {B R : Nat} {v v1 v2 : Value} {w w1 w2 : World} (h : Chg B R v v1 w w1) (k : Chg B R v1 v2 w1 w2) : Chg B R v v2 w w2 := by
  refine ⟨h.below.trans k.below, fun j hj hR hv => ?_, ?_⟩
  · refine (k.block j (Nat.lt_of_lt_of_le hj h.below.size) hR ?_).trans (h.block j hj hR hv)
    rcases h.own with e | ⟨g, e, hg⟩
    · rw [e]; exact hv
    · rw [e]; intro h'; injection h' with h'; omega
  · rcases k.own with e | ⟨g, e, hg⟩
    · rw [e]; exact h.own
    · exact Or.inr ⟨g, e, Nat.le_trans h.below.size hg⟩
theorem Chg.drew {B R : Nat} {v v' : Value} {w w' : World} (h : Chg B R v v' w w') : Chg B R v v' w w'.drew := ⟨h.below.drew, h.block, h.own⟩
theorem Chg.drewN {B R : Nat} {v v' : Value} {w w' : World} (h : Chg B R v v' w w') (n : Nat) : Chg B R v v' w (w'.drewN n) := ⟨below_drewN h.below n, h.block, h.own⟩
theorem Chg.mono {B B' R : Nat} {v v' : Value} {w w' : World} (h : Chg B R v v' w w') (hB : B' ≤ B) : Chg B' R v v' w w' := ⟨h.below.mono hB, h.block, h.own⟩
/-- A block that isn't the ring's. -/
theorem Chg.off {B R : Nat} {v v' : Value} {w w' : World} (h : Chg B R v v' w w') {b : Nat} (hb : b < w.heap.size) (hv : some b ≠ v.ownBlock) : some b ≠ v'.ownBlock := by
  rcases h.own with e | ⟨g, e, hg⟩
  · rw [e]; exact hv
  · rw [e]; intro h'; injection h' with h'; omega
theorem Blk.chg {B R : Nat} {v v' : Value} {w w' : World} {b : Nat} {cs : List Value} (hb : Blk w b cs) (h : Chg B R v v' w w') (hR : b ≠ R) (hv : some b ≠ v.ownBlock) : Blk w' b cs ∧ some b ≠ v'.ownBlock := by
  have e := h.block b hb.lt hR hv
  exact ⟨⟨Nat.lt_of_lt_of_le hb.lt h.below.size, fun o ho => (World.cell?_of_block (w := w) (a := ⟨b, o, none⟩) e).trans (hb.all o ho), fun o => (World.frozen?_of_block (w := w) (a := ⟨b, o, none⟩) e).trans (hb.froz o)⟩, h.off hb.lt hv⟩
theorem OwnP.chg {e : TypeId} {B C R : Nat} {v v' u : Value} {L : List Pr} {w w' : World} (hu : OwnP e w C u L) (h : Chg B R v v' w w') (hR : some R ≠ u.ownBlock) (hv : u.ownBlock = none ∨ u.ownBlock ≠ v.ownBlock) : OwnP e w' C u L := by
  refine ⟨hu.1, ?_⟩
  rcases hu.2 with hn | ⟨g, cap, cur, hv', hB, hg, rest⟩
  · exact Or.inl hn
  · have hgl : g < w.heap.size := (Array.getElem?_eq_some_iff.1 hg).1
    subst hv'
    refine Or.inr ⟨g, cap, cur, rfl, hB, (h.block g hgl (fun e => hR (by rw [← e]; rfl)) (fun e => ?_)).trans hg, rest⟩
    rcases hv with h' | h'
    · cases h'
    · exact h' (by rw [← e]; rfl)
/-- Two rings lie in blocks of their own. -/
structure Sep (R : Nat) (v : Value) (S : Nat) (u : Value) : Prop where
  blks : S ≠ R
  left : some S ≠ v.ownBlock
  right : some R ≠ u.ownBlock
  rows : u.ownBlock = none ∨ u.ownBlock ≠ v.ownBlock
theorem Sep.symm {R S : Nat} {u v : Value} (h : Sep R v S u) : Sep S u R v := by
  refine ⟨h.blks.symm, h.right, h.left, ?_⟩
  cases hv : v.ownBlock with
  | none => exact Or.inl rfl
  | some g =>
    right
    rcases h.rows with e | e
    · rw [e]; simp
    · rw [hv] at e; exact fun h => e h.symm
theorem RngV.chg {e' : TypeId} {B C R S : Nat} {v v' u : Value} {t : Rs} {w w' : World} (hu : RngV e' w C S u t) (h : Chg B R v v' w w') (hs : Sep R v S u) : RngV e' w' C S u t ∧ Sep R v' S u := by
  have hb := hu.blk.chg h hs.blks hs.left
  refine ⟨⟨hb.1, hu.own.chg h hs.right hs.rows, hu.ok, hu.ones, hu.ne, hu.le⟩, hs.blks, hb.2, hs.right, ?_⟩
  cases hq : u.ownBlock with
  | none => exact Or.inl rfl
  | some g =>
    right
    have := (hu.own.lt g hq).2
    refine h.off (b := g) this ?_
    rcases hs.rows with e | e
    · rw [hq] at e; cases e
    · rw [hq] at e; exact e
theorem RngV.below {e : TypeId} {B R : Nat} {v : Value} {s : Rs} {w w' : World} (h : RngV e w B R v s) (hb : Below w.heap.size w w') : RngV e w' B R v s :=
  ⟨h.blk.low hb h.blk.lt, h.own.below hb, h.ok, h.ones, h.ne, h.le⟩
theorem RngV.drew {e : TypeId} {B R : Nat} {v : Value} {s : Rs} {w : World} (h : RngV e w B R v s) : RngV e w.drew B R v s := ⟨h.blk.drew, h.own, h.ok, h.ones, h.ne, h.le⟩
theorem RngV.drewN {e : TypeId} {B R : Nat} {v : Value} {s : Rs} {w : World} (h : RngV e w B R v s) : ∀ n, RngV e (w.drewN n) B R v s
  | n => ⟨⟨h.blk.lt, h.blk.all, h.blk.froz⟩, h.own, h.ok, h.ones, h.ne, h.le⟩
theorem RngV.mono {e : TypeId} {B B' R : Nat} {v : Value} {s : Rs} {w : World} (h : RngV e w B R v s) (hB : B' ≤ B) : RngV e w B' R v s := by
  refine ⟨h.blk, ⟨h.own.1, ?_⟩, h.ok, h.ones, h.ne, Nat.le_trans hB h.le⟩
  rcases h.own.2 with hn | ⟨g, cap, cur, hv, hb, rest⟩
  · exact Or.inl hn
  · exact Or.inr ⟨g, cap, cur, hv, Nat.le_trans hB hb, rest⟩
/-- How many places below the length bear no greater number. -/
theorem count_untl : ∀ (L : List Pr) (k : Int), (List.range L.length).countP (fun i => !decide (k < keyAt L i)) = untl L k := by
  intro L k
  have e : L = (List.range L.length).map (fun i => L.getD i noPr) := by
    apply List.ext_getElem
    · simp
    · intro i h1 h2; simp [List.getD, h1]
  unfold untl
  conv => rhs; rw [e]
  rw [List.countP_map]
  refine List.countP_congr fun i _ => ?_
  simp [keyAt]
end Go.Proofs.YtlpdhglibgnkoaaGreat
