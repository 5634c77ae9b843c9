/-
  Layer 11 (ring): slices.Insert and slices.Delete of rings' rows, for things of three kinds (written by tools/rg4.py).
-/
import Derived.Test.YtfpngbeomgfmfaaRg3
namespace Go.Proofs.Ytfpngbeomgfmfaa
open Go.RowKit
set_option linter.unusedVariables false
set_option maxRecDepth 20000
theorem infoS : (Try.prog.info? 77).map (fun i => (i.zero, i.size, i.bytes)) = some (some (.agg #[.int .i64 0, .string ⟨#[]⟩]), 2, 24) := by kernel_rfl
theorem zeroS (w : World) : (zeroValue 77).run Try.prog w = .ok (.agg #[.int .i64 0, .string ⟨#[]⟩]) w := by kernel_rfl
set_option maxHeartbeats 4000000 in
/-- slices.Insert at the end. -/
theorem ins_endS (w : World) (B : Nat) (hB : B ≤ w.heap.size) (v : Value) (L : List Pr) (hown : OwnP 77 w B v L) (hl : L.length ≤ 1000) (p : Pr) (hx : p.2.oneCell' = true) (vb : Nat)
    (hvb : w.heap[vb]? = some (.cells #[.int .i64 p.1, p.2] 77 (0, 0))) :
    Calls Try.prog 31 #[v, .int .i64 (L.length : Nat), .slice (some ⟨vb, 0, none⟩) 1 1] w fun e w' => ∃ v', e = .returned v' ∧ OwnP 77 w' B v' (L ++ [p]) ∧ Grow B v w v' w' := by
  have HO : Hid (OwnP 77 w B v L) := hown
  have c0 : w.cell? ⟨vb, 0, none⟩ = some (.int .i64 p.1) := row_cell hvb 0
  have c1 : w.cell? ⟨vb, 1, none⟩ = some p.2 := row_cell hvb 1
  obtain ⟨ao, cap, rfl, h1, h2, h3⟩ := hown.form
  obtain ⟨n, hn⟩ : ∃ n, L.length = n := ⟨_, rfl⟩
  rw [hn] at h1 HO hl ⊢
  have HN := (show Hid _ from hn)
  have HB : Hid (B ≤ w.heap.size) := hB
  clear hn hvb hown hB
  rcases ao with _ | ⟨g, o, sp⟩
  · obtain rfl := h3 rfl
    obtain rfl : n = 0 := by omega
    clear h3
    go_enter Try.func31, Try.ntmps31
    go_wp2_with (at_builtin; refine growP_wp rfl 72 77 (.string ⟨#[]⟩) 24 Try.underlying72 infoS (by decide) (by rfl) _ _ rfl B _ L rfl (by exact HO.out) vb 0 p 1 rfl c0 c1 hx (by rw [HN.out]; omega) HB.out ?_; intro v' w' o1 g1)
    go_ret
    exact ⟨_, rfl, o1, g1⟩
  clear h3
  by_cases hcn : cap = n
  · subst hcn
    go_enter Try.func31, Try.ntmps31
    go_wp2_with (at_builtin; refine growP_wp rfl 72 77 (.string ⟨#[]⟩) 24 Try.underlying72 infoS (by decide) (by rfl) _ _ rfl B (.slice (some ⟨g, o, sp⟩) cap cap) L rfl (by exact HO.out) vb 0 p 1 rfl c0 c1 hx (by rw [HN.out]; omega) HB.out ?_; intro v' w' o1 g1)
    go_ret
    exact ⟨_, rfl, o1, g1⟩
  · go_enter Try.func31, Try.ntmps31
    go_wp2_with (at_builtin; refine growP_wp rfl 72 77 (.string ⟨#[]⟩) 24 Try.underlying72 infoS (by decide) (by rfl) _ _ rfl B (.slice (some ⟨g, o, sp⟩) n cap) L rfl (by exact HO.out) vb 0 p 1 rfl c0 c1 hx (by rw [HN.out]; omega) HB.out ?_; intro v' w' o1 g1)
    go_ret
    exact ⟨_, rfl, o1, g1⟩
set_option maxHeartbeats 4000000 in
/-- slices.Insert between, where there is room. -/
theorem ins_roomS (w : World) (B : Nat) (L : List Pr) (hones : Ones L) (g cap : Nat) (cur : Array Value) (hg : w.heap[g]? = some (.cells cur 77 (0, 0))) (hBg : B ≤ g) (hcs : cur.size = cap * 2) (htk : cur.toList.take (L.length * 2) = prs L)
    (hl : L.length ≤ 1000) (i : Nat) (hi : i < L.length) (hroom : L.length + 1 ≤ cap) (hm : cap ≤ 9223372036854775807) (p : Pr) (hx : p.2.oneCell' = true) (vb : Nat)
    (hvb : w.heap[vb]? = some (.cells #[.int .i64 p.1, p.2] 77 (0, 0))) (hne : vb ≠ g) :
    Calls Try.prog 31 #[.slice (some ⟨g, 0, none⟩) L.length cap, .int .i64 i, .slice (some ⟨vb, 0, none⟩) 1 1] w fun e w' => e = .returned (.slice (some ⟨g, 0, none⟩) (L.length + 1) cap) ∧ OwnP 77 w' B (.slice (some ⟨g, 0, none⟩) (L.length + 1) cap) (L.take i ++ p :: L.drop i) ∧ w.grownBy w' (some g) := by
  have hsz : (Try.prog.info? 77).map (·.size) = some 2 := by
    obtain ⟨i0, hi0, h0, h1, h2⟩ := info_parts infoS
    rw [hi0]; simp [h1]
  have c0 : w.cell? ⟨vb, 0, none⟩ = some (.int .i64 p.1) := row_cell hvb 0
  have c1 : w.cell? ⟨vb, 1, none⟩ = some p.2 := row_cell hvb 1
  have hov : ∀ o lb cb, (callFunc 41 #[.slice (some ⟨vb, 0, none⟩) 1 1, .slice (some ⟨g, o, none⟩) lb cb]).run Try.prog w = .ok (.value (.bool false)) w := fun o lb cb => by
    rw [run_callFunc_extern Try.func41 (by kernel_rfl) (by kernel_rfl) (by kernel_rfl) (e := Extern.SlicesOverlaps.overlaps #[72, 72] #[4]) (by kernel_rfl),
      Lib.run_overlaps_apart w 72 4 77 Try.underlying72 2 Try.sizeOf77 ⟨vb, 0, none⟩ ⟨g, o, none⟩ 1 1 lb cb hne 77 77 2 cur.size (by simp [World.shape?, hvb]) (by simp [World.shape?, hg]) (by omega) (row_froz hvb 0) (row_froz hvb 2)]
    rfl
  have hcell : ∀ j, j < cap * 2 → (w.cell? ⟨g, j, none⟩).isSome = true := fun j hj => by
    rw [row_cell hg, Array.getElem?_eq_getElem (by omega)]; rfl
  have hfz : ∀ j, w.frozen? ⟨g, j, none⟩ = false := fun j => row_froz hg j
  have hld : (L.drop i).length = L.length - i := by simp
  have hpd : (prs (L.drop i)).length = (L.length - i) * 2 := by rw [prs_len, hld]
  have hcp1 : ∀ ty dc sc, (Builtin.copy_ #[72, 72] ty #[.slice (some ⟨g, (i + 1) * 2, none⟩) (L.length - i) dc, .slice (some ⟨g, i * 2, none⟩) (L.length + 1 - i) sc]).run Try.prog w.drew = .ok (goInt ((L.length - i : Nat) : Int)) (w.drew.setCells g ((i + 1) * 2) (prs (L.drop i))) := fun ty dc sc =>
    run_copy_sz w.drew _ _ ty 77 g ((i + 1) * 2) _ dc ⟨g, i * 2, none⟩ _ sc 2 (L.length - i) (prs (L.drop i)) Try.underlying72 hsz (by simp only [Nat.min_def]; split <;> omega) hpd
      (fun j u hj => by
        rw [Addr.add_lit]
        rw [← prs_drop, List.getElem?_drop] at hj
        exact row_at (w := w) hg (by omega) hcs htk _ _ hj)
      (fun j hj => hcell _ (by omega)) (fun j hj => hfz _) (hones.drop i).cells
  obtain ⟨W1, hW1⟩ : ∃ W1, w.drew.setCells g ((i + 1) * 2) (prs (L.drop i)) = W1 := ⟨_, rfl⟩
  have hcp2 : ∀ (W : World), (∀ x, W.cell? x = W1.cell? x) → (∀ x, W.frozen? x = W1.frozen? x) → ∀ ty dc, (Builtin.copy_ #[72, 72] ty #[.slice (some ⟨g, i * 2, none⟩) (L.length + 1 - i) dc, .slice (some ⟨vb, 0, none⟩) 1 1]).run Try.prog W = .ok (goInt ((1 : Nat) : Int)) (W.setCells g (i * 2) [.int .i64 p.1, p.2]) := fun W hWc hWf ty dc =>
    run_copy_sz W _ _ ty 77 g (i * 2) _ dc ⟨vb, 0, none⟩ _ 1 2 1 [.int .i64 p.1, p.2] Try.underlying72 hsz (by simp only [Nat.min_def]; split <;> omega) rfl
      (fun j u hj => by
        rw [Addr.add_lit, Nat.zero_add, hWc, ← hW1, World.cell?_setCells_out g _ _ _ _ (fun h _ => absurd h hne)]
        rcases j with _ | _ | j
        · simp at hj; subst hj; exact c0
        · simp at hj; subst hj; exact c1
        · simp at hj)
      (fun j hj => by rw [hWc, ← hW1]; exact isSome_setCells g (prs (L.drop i)) ((i + 1) * 2) w.drew (fun t ht => hcell ((i + 1) * 2 + t) (by rw [hpd] at ht; omega)) (i * 2 + j) (hcell (i * 2 + j) (by simp at hj; omega))) (fun j hj => by rw [hWf, ← hW1, World.frozen?_setCells]; exact hfz _)
      (fun u hu => by
        simp only [List.mem_cons, List.not_mem_nil, or_false] at hu
        rcases hu with rfl | rfl
        · rfl
        · exact hx)
  rw [hW1] at hcp1
  have FIN : Hid (OwnP 77 (W1.setCells g (i * 2) [.int .i64 p.1, p.2]) B (.slice (some ⟨g, 0, none⟩) (L.length + 1) cap) (L.take i ++ p :: L.drop i) ∧ w.grownBy (W1.setCells g (i * 2) [.int .i64 p.1, p.2]) (some g)) :=
    ⟨laid_row (w := w.drew) hg hBg hm hcs hroom htk i (by omega) p _ W1 hW1.symm W1 rfl rfl, by rw [← hW1]; exact grown_trans ((grown_drew (grown_refl w _))) (grown_trans (grown_setCells g _ _ _) (grown_setCells g _ _ _))⟩
  obtain ⟨n, hn⟩ : ∃ n, L.length = n := ⟨_, rfl⟩
  obtain ⟨pd, hpdd⟩ : ∃ pd, prs (L.drop i) = pd := ⟨_, rfl⟩
  rw [hn] at hl hi hroom hcp1 hcp2 FIN ⊢
  have hz1 : ¬ ((i : Int) = (n : Int)) := by omega
  have hw1 : IntKind.i64.wrap ((i : Int) + 1) = (i : Int) + 1 := by rw [IntKind.wrap_i64]; omega
  have htn : ((i : Int) + 1).toNat = i + 1 := by omega
  have hb1 : (0 : Int) ≤ (i : Int) + 1 := by omega
  have hb2 : ¬ (cap = i + 1) := by omega
  have hb3 : (i : Int) ≤ (n : Int) + 1 := by omega
  have hb4 : ¬ (cap = i) := by omega
  have hin : i ≤ n := by omega
  clear hn hpdd hW1 hpd hld hfz hcell c0 c1 hvb hg htk hcs hones
  go_enter Try.func31, Try.ntmps31
  go_wp2_with (simp only [hov])
  go_region_law (refine step_copy_runI rfl _ _ 72 72 rfl _ _ (by simp [Act.eval, Act.put]) (by simp [Act.eval, Act.put]) (hcp1 _ _ _) ?_)
  go_wp2_with (at_builtin; refine wpList_copy_runI _ rfl _ _ 72 72 rfl _ _ rfl rfl (hcp2 _ (fun _ => rfl) (fun _ => rfl) _ _) ?_)
  go_ret
  exact ⟨rfl, FIN.out⟩
set_option maxHeartbeats 4000000 in
/-- slices.Insert between, where there is no room. -/
theorem ins_growS (w : World) (B : Nat) (hB : B ≤ w.heap.size) (L : List Pr) (hones : Ones L) (g cap : Nat) (cur : Array Value) (hg : w.heap[g]? = some (.cells cur 77 (0, 0))) (hcs : cur.size = cap * 2) (htk : cur.toList.take (L.length * 2) = prs L)
    (hl : L.length ≤ 1000) (i : Nat) (hi : i < L.length) (hnc : L.length ≤ cap) (hroom : cap < L.length + 1) (p : Pr) (hx : p.2.oneCell' = true) (vb : Nat)
    (hvb : w.heap[vb]? = some (.cells #[.int .i64 p.1, p.2] 77 (0, 0))) :
    Calls Try.prog 31 #[.slice (some ⟨g, 0, none⟩) L.length cap, .int .i64 i, .slice (some ⟨vb, 0, none⟩) 1 1] w fun e w' => ∃ v', e = .returned v' ∧ OwnP 77 w' B v' (L.take i ++ p :: L.drop i) ∧ Grow B (.slice (some ⟨g, 0, none⟩) L.length cap) w v' w' := by
  obtain ⟨i0, hi0, hz0, hzs, hzb⟩ := info_parts infoS
  have hsz : (Try.prog.info? 77).map (·.size) = some 2 := by rw [hi0]; simp [hzs]
  have hgw : g < w.heap.size := (Array.getElem?_eq_some_iff.1 hg).1
  have hvw : vb < w.heap.size := (Array.getElem?_eq_some_iff.1 hvb).1
  have hold : (Builtin.firstCells i0.size i (.slice (some ⟨g, 0, none⟩) i cap)).run Try.prog w.drew = .ok (prs (L.take i)).toArray w.drew := by
    rw [hzs]
    refine run_firstCells_some w.drew 2 i ⟨g, 0, none⟩ i cap (prs (L.take i)) (by rw [prs_len, List.length_take]; omega) (fun j u hj => ?_)
    rw [Addr.add_lit, Nat.zero_add]
    rw [← prs_take, List.getElem?_take] at hj
    split at hj
    · exact row_at (w := w) hg hnc hcs htk _ _ hj
    · cases hj
  have hge := grownCap_ge w (L.length + 1) cap 77
  have hle := grownCap_le_maxLen w (L.length + 1) cap 77 (by unfold maxLen; omega)
  have hik : i + (L.length + 1 - i) = L.length + 1 := by omega
  have hrz : ∀ ty, (Builtin.append_ #[72, 3] ty #[.slice (some ⟨g, 0, none⟩) i cap, .int .i64 ((L.length : Int) + 1 - (i : Int))]).run Try.prog w = .ok (.slice (some ⟨w.heap.size, 0, none⟩) (L.length + 1) (grownCap w (L.length + 1) cap 77)) (w.drew.alloc (.cells ((prs (L.take i)).toArray ++ Builtin.zeroCells (Value.agg #[.int .i64 0, .string ⟨#[]⟩]).cells (L.length + 1 - i) ++ Builtin.zeroCells (Value.agg #[.int .i64 0, .string ⟨#[]⟩]).cells (grownCap w (L.length + 1) cap 77 - (L.length + 1))) 77)) := fun ty => by
    have h := Lib.run_append_grow_zeros (P := Try.prog) w 72 3 ty 77 i0 (.agg #[.int .i64 0, .string ⟨#[]⟩]) .i64 .i64 Try.underlying72 Try.underlying3 hi0 hz0 (some ⟨g, 0, none⟩) i cap (prs (L.take i)) hold (L.length + 1 - i) (by omega) (by omega) (by omega) (by omega) (by rw [hzb]; omega) (by rw [hzb, hik]; exact growslice_fits hroom (by omega))
    rw [hik, show (((L.length + 1 - i : Nat) : Int)) = (L.length : Int) + 1 - (i : Int) by omega] at h
    exact h
  obtain ⟨G, hG⟩ : ∃ G, grownCap w (L.length + 1) cap 77 = G := ⟨_, rfl⟩
  rw [hG] at hrz hge hle
  obtain ⟨ROW, hROW⟩ : ∃ ROW : Array Value, (prs (L.take i)).toArray ++ Builtin.zeroCells (Value.agg #[.int .i64 0, .string ⟨#[]⟩]).cells (L.length + 1 - i) ++ Builtin.zeroCells (Value.agg #[.int .i64 0, .string ⟨#[]⟩]).cells (G - (L.length + 1)) = ROW := ⟨_, rfl⟩
  rw [hROW] at hrz
  have hz2 : (Value.agg #[.int .i64 0, .string ⟨#[]⟩]).cells.size = 2 := by rfl
  have hpt : (prs (L.take i)).length = i * 2 := by rw [prs_len, List.length_take]; omega
  have hRs : ROW.size = G * 2 := by
    rw [← hROW, Array.size_append, Array.size_append, zeros_len, zeros_len, hz2, List.size_toArray, hpt]; omega
  have hRt : ROW.toList.take (i * 2) = prs (L.take i) := by
    rw [← hROW, Array.toList_append, Array.toList_append, List.append_assoc]
    exact take_app_len _ _ _ hpt
  obtain ⟨H, hH⟩ : ∃ H, w.heap.size = H := ⟨_, rfl⟩
  obtain ⟨W1, hW1⟩ : ∃ W1, w.drew.alloc (.cells ROW 77) = W1 := ⟨_, rfl⟩
  have hR1 : W1.heap[H]? = some (.cells ROW 77 (0, 0)) := by rw [← hW1, ← hH]; exact heap_alloc_new w.drew _
  have gW1 : w.grownBy W1 (some g) := by rw [← hW1]; exact grown_trans (grown_drew (grown_refl w _)) (World.grownBy_alloc w.drew _ _)
  rw [hW1, hH] at hrz
  have hOb : ∀ b j v, b < H → w.cell? ⟨b, j, none⟩ = some v → W1.cell? ⟨b, j, none⟩ = some v := fun b j v hb h => by rw [← hW1, World.cell?_alloc_past (w := w.drew) _ b j (by show b < w.heap.size; omega)]; exact h
  have c0 : W1.cell? ⟨vb, 0, none⟩ = some (.int .i64 p.1) := hOb _ _ _ (by omega) (row_cell hvb 0)
  have c1 : W1.cell? ⟨vb, 1, none⟩ = some p.2 := hOb _ _ _ (by omega) (row_cell hvb 1)
  have hgH : g ≠ H := by omega
  have hvH : vb ≠ H := by omega
  have hcell : ∀ j, j < G * 2 → (W1.cell? ⟨H, j, none⟩).isSome = true := fun j hj => by
    rw [row_cell hR1, Array.getElem?_eq_getElem (by omega)]; rfl
  have hfz : ∀ j, W1.frozen? ⟨H, j, none⟩ = false := fun j => row_froz hR1 j
  have hcpA : ∀ ty dc, (Builtin.copy_ #[72, 72] ty #[.slice (some ⟨H, i * 2, none⟩) (L.length + 1 - i) dc, .slice (some ⟨vb, 0, none⟩) 1 1]).run Try.prog W1 = .ok (goInt ((1 : Nat) : Int)) (W1.setCells H (i * 2) [.int .i64 p.1, p.2]) := fun ty dc =>
    run_copy_sz W1 _ _ ty 77 H (i * 2) _ dc ⟨vb, 0, none⟩ _ 1 2 1 [.int .i64 p.1, p.2] Try.underlying72 hsz (by simp only [Nat.min_def]; split <;> omega) rfl
      (fun j u hj => by
        rw [Addr.add_lit, Nat.zero_add]
        rcases j with _ | _ | j
        · simp at hj; subst hj; exact c0
        · simp at hj; subst hj; exact c1
        · simp at hj)
      (fun j hj => hcell _ (by simp at hj; omega)) (fun j hj => hfz _)
      (fun u hu => by
        simp only [List.mem_cons, List.not_mem_nil, or_false] at hu
        rcases hu with rfl | rfl
        · rfl
        · exact hx)
  obtain ⟨W2, hW2⟩ : ∃ W2, W1.setCells H (i * 2) [.int .i64 p.1, p.2] = W2 := ⟨_, rfl⟩
  rw [hW2] at hcpA
  have hld : (L.drop i).length = L.length - i := by simp
  have hpd : (prs (L.drop i)).length = (L.length - i) * 2 := by rw [prs_len, hld]
  have hcpB : ∀ ty dc sc, (Builtin.copy_ #[72, 72] ty #[.slice (some ⟨H, (i + 1) * 2, none⟩) (L.length - i) dc, .slice (some ⟨g, i * 2, none⟩) (L.length - i) sc]).run Try.prog W2.drew = .ok (goInt ((L.length - i : Nat) : Int)) (W2.drew.setCells H ((i + 1) * 2) (prs (L.drop i))) := fun ty dc sc =>
    run_copy_sz W2.drew _ _ ty 77 H ((i + 1) * 2) _ dc ⟨g, i * 2, none⟩ _ sc 2 (L.length - i) (prs (L.drop i)) Try.underlying72 hsz (by simp only [Nat.min_def]; split <;> omega) hpd
      (fun j u hj => by
        rw [Addr.add_lit]
        rw [← prs_drop, List.getElem?_drop] at hj
        show W2.cell? _ = _
        rw [← hW2, World.cell?_setCells_out H _ _ _ _ (fun h _ => absurd h hgH)]
        exact hOb _ _ _ (by omega) (row_at (w := w) hg hnc hcs htk _ _ hj))
      (fun j hj => by
        show (W2.cell? _).isSome = true
        rw [← hW2]; exact isSome_setCells H [.int .i64 p.1, p.2] (i * 2) W1 (fun t ht => hcell (i * 2 + t) (by simp at ht; omega)) ((i + 1) * 2 + j) (hcell ((i + 1) * 2 + j) (by rw [hpd] at hj; omega)))
      (fun j hj => by show W2.frozen? _ = _; rw [← hW2, World.frozen?_setCells]; exact hfz _) (hones.drop i).cells
  obtain ⟨W3, hW3⟩ : ∃ W3, W2.drew.setCells H ((i + 1) * 2) (prs (L.drop i)) = W3 := ⟨_, rfl⟩
  rw [hW3] at hcpB
  have hG63 : G ≤ 9223372036854775807 := by unfold maxLen at hle; omega
  have g3 : w.grownBy W3 (some g) := by
    rw [← hW3]
    refine grown_past (g := H) (w' := W2.drew) (grown_drew ?_) (grown_setCells H _ _ _) (by omega)
    rw [← hW2]
    exact grown_past gW1 (grown_setCells H _ _ _) (by omega)
  have FIN : Hid (OwnP 77 W3 B (.slice (some ⟨H, 0, none⟩) (L.length + 1) G) (L.take i ++ p :: L.drop i) ∧ w.grownBy W3 (some g)) :=
    ⟨new_row hR1 (by omega) hG63 hRs hge i (by omega) hRt p W3 W2 hW2.symm W2.drew rfl hW3.symm, g3⟩
  have b3 : Hid (∀ B', B' ≤ g → B' ≤ w.heap.size → Below B' w W3) := fun B' h1 h2 => (Below.refl B' w).grown g3 h2 (fun k hk => by injection hk with hk; omega)
  have b4 : Hid (Below B w W3) := by
    refine ⟨g3.os, g3.tape, g3.output, g3.size, fun k hk => ?_⟩
    have e3 : W3.heap[k]? = W2.heap[k]? := by rw [← hW3]; exact World.heap_setCells_other W2.drew H _ _ (by show k < W2.heap.size; rw [← hW2]; have := (grown_setCells H [.int .i64 p.1, p.2] (i * 2) W1).size; have := gW1.size; omega) (by omega)
    have e2 : W2.heap[k]? = W1.heap[k]? := by rw [← hW2]; exact World.heap_setCells_other W1 H _ _ (by have := gW1.size; omega) (by omega)
    have e1 : W1.heap[k]? = w.heap[k]? := by rw [← hW1]; exact heap_alloc_old w.drew _ (by show k < w.heap.size; omega)
    rw [e3, e2, e1]
  obtain ⟨n, hn⟩ : ∃ n, L.length = n := ⟨_, rfl⟩
  rw [hn] at hl hi hroom hnc hrz hcpA hcpB FIN hge ⊢
  have HHH : Hid (w.heap.size = H) := hH
  have hz1 : ¬ ((i : Int) = (n : Int)) := by omega
  have hz3 : (cap : Int) < (n : Int) + 1 := by omega
  have hw1 : IntKind.i64.wrap ((i : Int) + 1) = (i : Int) + 1 := by rw [IntKind.wrap_i64]; omega
  have htn : ((i : Int) + 1).toNat = i + 1 := by omega
  have hb1 : (0 : Int) ≤ (i : Int) + 1 := by omega
  have hb2 : ¬ (G = i + 1) := by omega
  have hb3 : (i : Int) ≤ (n : Int) + 1 := by omega
  have hb4 : ¬ (cap = i) := by omega
  have hb5 : ¬ (G = i) := by omega
  have hin : i ≤ n := by omega
  have hiG : i ≤ G := by omega
  have hic : i ≤ cap := by omega
  clear hn hW1 hW2 hW3 hpd hld hfz hcell c0 c1 hvb hg htk hcs hones hOb gW1 hR1 hRt hRs hpt hz2 hROW hG hold hi0 hz0 hzs hzb hsz hgw hvw hH hgH hvH g3 hik hle
  go_enter Try.func31, Try.ntmps31
  go_wp2_with (first
    | (at_builtin; refine Lib.wpList_append_run _ rfl _ _ _ _ rfl _ _ rfl rfl _ _ (hrz _) ?_)
    | (at_builtin; refine wpList_copy_runI _ rfl _ _ 72 72 rfl _ _ rfl rfl (hcpA _ _) ?_))
  go_region_law (refine step_copy_runI rfl _ _ 72 72 rfl _ _ (by simp [Act.eval, Act.put]) (by simp [Act.eval, Act.put]) (hcpB _ _ _) ?_)
  go_wp2_with fail
  go_ret
  exact ⟨_, rfl, FIN.out.1, ⟨b4.out, FIN.out.2, Or.inr (by rw [HHH.out]; rfl)⟩⟩
set_option maxHeartbeats 4000000 in
/-- slices.Delete of the first one. -/
theorem del_oneS (w : World) (B : Nat) (L : List Pr) (hones : Ones L) (m : Nat) (hn : L.length = m + 1) (g cap : Nat) (hown : OwnP 77 w B (.slice (some ⟨g, 0, none⟩) (m + 1) cap) L) (hl : L.length ≤ 1000) :
    Calls Try.prog 43 #[.slice (some ⟨g, 0, none⟩) (m + 1) cap, .int .i64 0, .int .i64 1] w fun e w' => e = .returned (.slice (some ⟨g, 0, none⟩) m cap) ∧ OwnP 77 w' B (.slice (some ⟨g, 0, none⟩) m cap) L.tail ∧ w.grownBy w' (some g) := by
  have hL : L ≠ [] := by intro h; rw [h] at hn; simp at hn
  obtain ⟨i0, hi0, hz0, hzs, hzb⟩ := info_parts infoS
  obtain ⟨g', cap', cur, hv, hBg, hg, hc, hm, hcs, htk⟩ := hown.some_ hL
  injection hv with h1 h2 h3; injection h1 with h1; injection h1 with h1 _ _; subst h1; subst h3
  clear h2
  have htl : L.tail.length = m := by rw [List.length_tail]; omega
  have hpt : (prs L.tail).length = m * 2 := by rw [prs_len, htl]
  have hcell : ∀ j, j < cap * 2 → (w.cell? ⟨g, j, none⟩).isSome = true := fun j hj => by
    rw [row_cell hg, Array.getElem?_eq_getElem (by omega)]; rfl
  have hfz : ∀ j, w.frozen? ⟨g, j, none⟩ = false := fun j => row_froz hg j
  have hdrop : (prs L).drop 2 = prs L.tail := by
    have := prs_drop L 1
    rw [List.drop_one] at this
    exact this
  obtain ⟨A, hA, hsrc⟩ : ∃ A : Addr, (if cap = 1 then some (⟨g, 0, none⟩ : Addr) else some ⟨g, 2, none⟩) = some A ∧ Hid (∀ t u, (prs L.tail)[t]? = some u → w.drew.cell? (A.add t) = some u) := by
    by_cases h : cap = 1
    · refine ⟨⟨g, 0, none⟩, by simp [h], fun t u hu => ?_⟩
      have h0 : L.tail = [] := List.eq_nil_of_length_eq_zero (by omega)
      rw [h0, prs_nil] at hu; simp at hu
    · refine ⟨⟨g, 2, none⟩, by simp [h], fun t u hu => ?_⟩
      rw [Addr.add_lit]
      rw [← hdrop, List.getElem?_drop] at hu
      exact row_at (w := w) hg hc hcs htk _ _ hu
  have s1 : Hid ((prs L.tail).length = m * 2) := hpt
  have s2 : Hid (∀ u ∈ prs L.tail, u.oneCell' = true) := hones.tail.cells
  have s3 : Hid (∀ t, t < (prs L.tail).length → (w.drew.cell? ⟨g, 0 + 0 * 2 + t, none⟩).isSome = true ∧ w.drew.frozen? ⟨g, 0 + 0 * 2 + t, none⟩ = false) := fun t ht =>
    ⟨hcell _ (by rw [hpt] at ht; omega), hfz _⟩
  obtain ⟨W1, hW1⟩ : ∃ W1, w.drew.setCells g (0 + 0 * 2) (prs L.tail) = W1 := ⟨_, rfl⟩
  have hW : Hid (w.drew.setCells g (0 + 0 * 2) (prs L.tail) = W1) := hW1
  have hcl : ∀ ty c, (Builtin.clear_ #[72] ty #[.slice (some ⟨g, m * 2, none⟩) 1 c]).run Try.prog W1 = .ok (.tuple #[]) (W1.setCells g (m * 2) (Value.agg #[.int .i64 0, .string ⟨#[]⟩]).cells.toList) := fun ty c =>
    run_clear_one W1 _ _ ty _ Try.underlying72 zeroS g (m * 2) c
      (fun j hj => by
        have hj' : j < 2 := hj
        rw [← hW1]; exact isSome_setCells g (prs L.tail) (0 + 0 * 2) w.drew (fun t ht => hcell (0 + 0 * 2 + t) (by rw [hpt] at ht; omega)) (m * 2 + j) (hcell (m * 2 + j) (by omega)))
      (fun j hj => by rw [← hW1, World.frozen?_setCells]; exact hfz _)
      (fun u hu => by
        have hu' : u ∈ [Value.int .i64 0, .string ⟨#[]⟩] := hu
        simp only [List.mem_cons, List.not_mem_nil, or_false] at hu'
        rcases hu' with rfl | rfl <;> rfl)
  obtain ⟨W2, hW2⟩ : ∃ W2, W1.setCells g (m * 2) (Value.agg #[.int .i64 0, .string ⟨#[]⟩]).cells.toList = W2 := ⟨_, rfl⟩
  rw [hW2] at hcl
  have FIN : Hid (OwnP 77 W2 B (.slice (some ⟨g, 0, none⟩) m cap) L.tail ∧ w.grownBy W2 (some g)) := by
    refine ⟨?_, ?_⟩
    · have := tail_row (w := w.drew) hL hg hBg hm hcs hc W2 W1 hW1.symm W1 rfl (Value.agg #[.int .i64 0, .string ⟨#[]⟩]).cells.toList rfl (by rw [show L.length - 1 = m by omega]; exact hW2.symm)
      rw [show L.length - 1 = m by omega] at this
      exact this
    · rw [← hW2, ← hW1]; exact grown_trans ((grown_drew (grown_refl w _))) (grown_trans (grown_setCells g _ _ _) (grown_setCells g _ _ _))
  have hmc : m + 1 ≤ cap := by omega
  have hm1 : m ≤ 999 := by omega
  have hb1 : ¬ (cap = 0) := by omega
  have hb2 : ¬ (cap = m) := by omega
  have hb3 : (1 : Int) ≤ (m : Int) + 1 := by omega
  have hb4 : 1 ≤ cap := by omega
  have hb5 : m ≤ cap := by omega
  clear hW1 hW2 hpt hcell hfz hdrop hg htk hcs hones hi0 hz0 hzs hzb hown hc hl htl hn
  go_enter Try.func43, Try.ntmps43
  obtain ⟨i0, hi0, hz0, hzs, hzb⟩ := info_parts infoS
  have H0 : Hid (Try.prog.info? 77 = some i0) := hi0
  have H1 : Hid (i0.size = 2) := hzs
  clear hi0 hz0 hzs hzb
  go_wp2_with fail
  go_region_law (refine step_append_room rfl (.tmp 22) (.tmp 25) 72 rfl 77 i0 2 Try.underlying72 H0.out H1.out g 0 0 cap (by simp [Act.eval, Act.put]) A m (cap - 1) (prs L.tail) (by simp [Act.eval, Act.put]) s1.out hsrc.out s2.out (by omega) s3.out ?_; rw [hW.out])
  go_wp2_with fail
  go_ret
  exact ⟨rfl, FIN.out⟩
theorem infoI : (Try.prog.info? 86).map (fun i => (i.zero, i.size, i.bytes)) = some (some (.agg #[.int .i64 0, .int .i64 0]), 2, 16) := by kernel_rfl
theorem zeroI (w : World) : (zeroValue 86).run Try.prog w = .ok (.agg #[.int .i64 0, .int .i64 0]) w := by kernel_rfl
set_option maxHeartbeats 4000000 in
/-- slices.Insert at the end. -/
theorem ins_endI (w : World) (B : Nat) (hB : B ≤ w.heap.size) (v : Value) (L : List Pr) (hown : OwnP 86 w B v L) (hl : L.length ≤ 1000) (p : Pr) (hx : p.2.oneCell' = true) (vb : Nat)
    (hvb : w.heap[vb]? = some (.cells #[.int .i64 p.1, p.2] 86 (0, 0))) :
    Calls Try.prog 36 #[v, .int .i64 (L.length : Nat), .slice (some ⟨vb, 0, none⟩) 1 1] w fun e w' => ∃ v', e = .returned v' ∧ OwnP 86 w' B v' (L ++ [p]) ∧ Grow B v w v' w' := by
  have HO : Hid (OwnP 86 w B v L) := hown
  have c0 : w.cell? ⟨vb, 0, none⟩ = some (.int .i64 p.1) := row_cell hvb 0
  have c1 : w.cell? ⟨vb, 1, none⟩ = some p.2 := row_cell hvb 1
  obtain ⟨ao, cap, rfl, h1, h2, h3⟩ := hown.form
  obtain ⟨n, hn⟩ : ∃ n, L.length = n := ⟨_, rfl⟩
  rw [hn] at h1 HO hl ⊢
  have HN := (show Hid _ from hn)
  have HB : Hid (B ≤ w.heap.size) := hB
  clear hn hvb hown hB
  rcases ao with _ | ⟨g, o, sp⟩
  · obtain rfl := h3 rfl
    obtain rfl : n = 0 := by omega
    clear h3
    go_enter Try.func36, Try.ntmps36
    go_wp2_with (at_builtin; refine growP_wp rfl 82 86 (.int .i64 0) 16 Try.underlying82 infoI (by decide) (by rfl) _ _ rfl B _ L rfl (by exact HO.out) vb 0 p 1 rfl c0 c1 hx (by rw [HN.out]; omega) HB.out ?_; intro v' w' o1 g1)
    go_ret
    exact ⟨_, rfl, o1, g1⟩
  clear h3
  by_cases hcn : cap = n
  · subst hcn
    go_enter Try.func36, Try.ntmps36
    go_wp2_with (at_builtin; refine growP_wp rfl 82 86 (.int .i64 0) 16 Try.underlying82 infoI (by decide) (by rfl) _ _ rfl B (.slice (some ⟨g, o, sp⟩) cap cap) L rfl (by exact HO.out) vb 0 p 1 rfl c0 c1 hx (by rw [HN.out]; omega) HB.out ?_; intro v' w' o1 g1)
    go_ret
    exact ⟨_, rfl, o1, g1⟩
  · go_enter Try.func36, Try.ntmps36
    go_wp2_with (at_builtin; refine growP_wp rfl 82 86 (.int .i64 0) 16 Try.underlying82 infoI (by decide) (by rfl) _ _ rfl B (.slice (some ⟨g, o, sp⟩) n cap) L rfl (by exact HO.out) vb 0 p 1 rfl c0 c1 hx (by rw [HN.out]; omega) HB.out ?_; intro v' w' o1 g1)
    go_ret
    exact ⟨_, rfl, o1, g1⟩
set_option maxHeartbeats 4000000 in
/-- slices.Insert between, where there is room. -/
theorem ins_roomI (w : World) (B : Nat) (L : List Pr) (hones : Ones L) (g cap : Nat) (cur : Array Value) (hg : w.heap[g]? = some (.cells cur 86 (0, 0))) (hBg : B ≤ g) (hcs : cur.size = cap * 2) (htk : cur.toList.take (L.length * 2) = prs L)
    (hl : L.length ≤ 1000) (i : Nat) (hi : i < L.length) (hroom : L.length + 1 ≤ cap) (hm : cap ≤ 9223372036854775807) (p : Pr) (hx : p.2.oneCell' = true) (vb : Nat)
    (hvb : w.heap[vb]? = some (.cells #[.int .i64 p.1, p.2] 86 (0, 0))) (hne : vb ≠ g) :
    Calls Try.prog 36 #[.slice (some ⟨g, 0, none⟩) L.length cap, .int .i64 i, .slice (some ⟨vb, 0, none⟩) 1 1] w fun e w' => e = .returned (.slice (some ⟨g, 0, none⟩) (L.length + 1) cap) ∧ OwnP 86 w' B (.slice (some ⟨g, 0, none⟩) (L.length + 1) cap) (L.take i ++ p :: L.drop i) ∧ w.grownBy w' (some g) := by
  have hsz : (Try.prog.info? 86).map (·.size) = some 2 := by
    obtain ⟨i0, hi0, h0, h1, h2⟩ := info_parts infoI
    rw [hi0]; simp [h1]
  have c0 : w.cell? ⟨vb, 0, none⟩ = some (.int .i64 p.1) := row_cell hvb 0
  have c1 : w.cell? ⟨vb, 1, none⟩ = some p.2 := row_cell hvb 1
  have hov : ∀ o lb cb, (callFunc 45 #[.slice (some ⟨vb, 0, none⟩) 1 1, .slice (some ⟨g, o, none⟩) lb cb]).run Try.prog w = .ok (.value (.bool false)) w := fun o lb cb => by
    rw [run_callFunc_extern Try.func45 (by kernel_rfl) (by kernel_rfl) (by kernel_rfl) (e := Extern.SlicesOverlaps.overlaps #[82, 82] #[4]) (by kernel_rfl),
      Lib.run_overlaps_apart w 82 4 86 Try.underlying82 2 Try.sizeOf86 ⟨vb, 0, none⟩ ⟨g, o, none⟩ 1 1 lb cb hne 86 86 2 cur.size (by simp [World.shape?, hvb]) (by simp [World.shape?, hg]) (by omega) (row_froz hvb 0) (row_froz hvb 2)]
    rfl
  have hcell : ∀ j, j < cap * 2 → (w.cell? ⟨g, j, none⟩).isSome = true := fun j hj => by
    rw [row_cell hg, Array.getElem?_eq_getElem (by omega)]; rfl
  have hfz : ∀ j, w.frozen? ⟨g, j, none⟩ = false := fun j => row_froz hg j
  have hld : (L.drop i).length = L.length - i := by simp
  have hpd : (prs (L.drop i)).length = (L.length - i) * 2 := by rw [prs_len, hld]
  have hcp1 : ∀ ty dc sc, (Builtin.copy_ #[82, 82] ty #[.slice (some ⟨g, (i + 1) * 2, none⟩) (L.length - i) dc, .slice (some ⟨g, i * 2, none⟩) (L.length + 1 - i) sc]).run Try.prog w.drew = .ok (goInt ((L.length - i : Nat) : Int)) (w.drew.setCells g ((i + 1) * 2) (prs (L.drop i))) := fun ty dc sc =>
    run_copy_sz w.drew _ _ ty 86 g ((i + 1) * 2) _ dc ⟨g, i * 2, none⟩ _ sc 2 (L.length - i) (prs (L.drop i)) Try.underlying82 hsz (by simp only [Nat.min_def]; split <;> omega) hpd
      (fun j u hj => by
        rw [Addr.add_lit]
        rw [← prs_drop, List.getElem?_drop] at hj
        exact row_at (w := w) hg (by omega) hcs htk _ _ hj)
      (fun j hj => hcell _ (by omega)) (fun j hj => hfz _) (hones.drop i).cells
  obtain ⟨W1, hW1⟩ : ∃ W1, w.drew.setCells g ((i + 1) * 2) (prs (L.drop i)) = W1 := ⟨_, rfl⟩
  have hcp2 : ∀ (W : World), (∀ x, W.cell? x = W1.cell? x) → (∀ x, W.frozen? x = W1.frozen? x) → ∀ ty dc, (Builtin.copy_ #[82, 82] ty #[.slice (some ⟨g, i * 2, none⟩) (L.length + 1 - i) dc, .slice (some ⟨vb, 0, none⟩) 1 1]).run Try.prog W = .ok (goInt ((1 : Nat) : Int)) (W.setCells g (i * 2) [.int .i64 p.1, p.2]) := fun W hWc hWf ty dc =>
    run_copy_sz W _ _ ty 86 g (i * 2) _ dc ⟨vb, 0, none⟩ _ 1 2 1 [.int .i64 p.1, p.2] Try.underlying82 hsz (by simp only [Nat.min_def]; split <;> omega) rfl
      (fun j u hj => by
        rw [Addr.add_lit, Nat.zero_add, hWc, ← hW1, World.cell?_setCells_out g _ _ _ _ (fun h _ => absurd h hne)]
        rcases j with _ | _ | j
        · simp at hj; subst hj; exact c0
        · simp at hj; subst hj; exact c1
        · simp at hj)
      (fun j hj => by rw [hWc, ← hW1]; exact isSome_setCells g (prs (L.drop i)) ((i + 1) * 2) w.drew (fun t ht => hcell ((i + 1) * 2 + t) (by rw [hpd] at ht; omega)) (i * 2 + j) (hcell (i * 2 + j) (by simp at hj; omega))) (fun j hj => by rw [hWf, ← hW1, World.frozen?_setCells]; exact hfz _)
      (fun u hu => by
        simp only [List.mem_cons, List.not_mem_nil, or_false] at hu
        rcases hu with rfl | rfl
        · rfl
        · exact hx)
  rw [hW1] at hcp1
  have FIN : Hid (OwnP 86 (W1.setCells g (i * 2) [.int .i64 p.1, p.2]) B (.slice (some ⟨g, 0, none⟩) (L.length + 1) cap) (L.take i ++ p :: L.drop i) ∧ w.grownBy (W1.setCells g (i * 2) [.int .i64 p.1, p.2]) (some g)) :=
    ⟨laid_row (w := w.drew) hg hBg hm hcs hroom htk i (by omega) p _ W1 hW1.symm W1 rfl rfl, by rw [← hW1]; exact grown_trans ((grown_drew (grown_refl w _))) (grown_trans (grown_setCells g _ _ _) (grown_setCells g _ _ _))⟩
  obtain ⟨n, hn⟩ : ∃ n, L.length = n := ⟨_, rfl⟩
  obtain ⟨pd, hpdd⟩ : ∃ pd, prs (L.drop i) = pd := ⟨_, rfl⟩
  rw [hn] at hl hi hroom hcp1 hcp2 FIN ⊢
  have hz1 : ¬ ((i : Int) = (n : Int)) := by omega
  have hw1 : IntKind.i64.wrap ((i : Int) + 1) = (i : Int) + 1 := by rw [IntKind.wrap_i64]; omega
  have htn : ((i : Int) + 1).toNat = i + 1 := by omega
  have hb1 : (0 : Int) ≤ (i : Int) + 1 := by omega
  have hb2 : ¬ (cap = i + 1) := by omega
  have hb3 : (i : Int) ≤ (n : Int) + 1 := by omega
  have hb4 : ¬ (cap = i) := by omega
  have hin : i ≤ n := by omega
  clear hn hpdd hW1 hpd hld hfz hcell c0 c1 hvb hg htk hcs hones
  go_enter Try.func36, Try.ntmps36
  go_wp2_with (simp only [hov])
  go_region_law (refine step_copy_runI rfl _ _ 82 82 rfl _ _ (by simp [Act.eval, Act.put]) (by simp [Act.eval, Act.put]) (hcp1 _ _ _) ?_)
  go_wp2_with (at_builtin; refine wpList_copy_runI _ rfl _ _ 82 82 rfl _ _ rfl rfl (hcp2 _ (fun _ => rfl) (fun _ => rfl) _ _) ?_)
  go_ret
  exact ⟨rfl, FIN.out⟩
set_option maxHeartbeats 4000000 in
/-- slices.Insert between, where there is no room. -/
theorem ins_growI (w : World) (B : Nat) (hB : B ≤ w.heap.size) (L : List Pr) (hones : Ones L) (g cap : Nat) (cur : Array Value) (hg : w.heap[g]? = some (.cells cur 86 (0, 0))) (hcs : cur.size = cap * 2) (htk : cur.toList.take (L.length * 2) = prs L)
    (hl : L.length ≤ 1000) (i : Nat) (hi : i < L.length) (hnc : L.length ≤ cap) (hroom : cap < L.length + 1) (p : Pr) (hx : p.2.oneCell' = true) (vb : Nat)
    (hvb : w.heap[vb]? = some (.cells #[.int .i64 p.1, p.2] 86 (0, 0))) :
    Calls Try.prog 36 #[.slice (some ⟨g, 0, none⟩) L.length cap, .int .i64 i, .slice (some ⟨vb, 0, none⟩) 1 1] w fun e w' => ∃ v', e = .returned v' ∧ OwnP 86 w' B v' (L.take i ++ p :: L.drop i) ∧ Grow B (.slice (some ⟨g, 0, none⟩) L.length cap) w v' w' := by
  obtain ⟨i0, hi0, hz0, hzs, hzb⟩ := info_parts infoI
  have hsz : (Try.prog.info? 86).map (·.size) = some 2 := by rw [hi0]; simp [hzs]
  have hgw : g < w.heap.size := (Array.getElem?_eq_some_iff.1 hg).1
  have hvw : vb < w.heap.size := (Array.getElem?_eq_some_iff.1 hvb).1
  have hold : (Builtin.firstCells i0.size i (.slice (some ⟨g, 0, none⟩) i cap)).run Try.prog w.drew = .ok (prs (L.take i)).toArray w.drew := by
    rw [hzs]
    refine run_firstCells_some w.drew 2 i ⟨g, 0, none⟩ i cap (prs (L.take i)) (by rw [prs_len, List.length_take]; omega) (fun j u hj => ?_)
    rw [Addr.add_lit, Nat.zero_add]
    rw [← prs_take, List.getElem?_take] at hj
    split at hj
    · exact row_at (w := w) hg hnc hcs htk _ _ hj
    · cases hj
  have hge := grownCap_ge w (L.length + 1) cap 86
  have hle := grownCap_le_maxLen w (L.length + 1) cap 86 (by unfold maxLen; omega)
  have hik : i + (L.length + 1 - i) = L.length + 1 := by omega
  have hrz : ∀ ty, (Builtin.append_ #[82, 3] ty #[.slice (some ⟨g, 0, none⟩) i cap, .int .i64 ((L.length : Int) + 1 - (i : Int))]).run Try.prog w = .ok (.slice (some ⟨w.heap.size, 0, none⟩) (L.length + 1) (grownCap w (L.length + 1) cap 86)) (w.drew.alloc (.cells ((prs (L.take i)).toArray ++ Builtin.zeroCells (Value.agg #[.int .i64 0, .int .i64 0]).cells (L.length + 1 - i) ++ Builtin.zeroCells (Value.agg #[.int .i64 0, .int .i64 0]).cells (grownCap w (L.length + 1) cap 86 - (L.length + 1))) 86)) := fun ty => by
    have h := Lib.run_append_grow_zeros (P := Try.prog) w 82 3 ty 86 i0 (.agg #[.int .i64 0, .int .i64 0]) .i64 .i64 Try.underlying82 Try.underlying3 hi0 hz0 (some ⟨g, 0, none⟩) i cap (prs (L.take i)) hold (L.length + 1 - i) (by omega) (by omega) (by omega) (by omega) (by rw [hzb]; omega) (by rw [hzb, hik]; exact growslice_fits hroom (by omega))
    rw [hik, show (((L.length + 1 - i : Nat) : Int)) = (L.length : Int) + 1 - (i : Int) by omega] at h
    exact h
  obtain ⟨G, hG⟩ : ∃ G, grownCap w (L.length + 1) cap 86 = G := ⟨_, rfl⟩
  rw [hG] at hrz hge hle
  obtain ⟨ROW, hROW⟩ : ∃ ROW : Array Value, (prs (L.take i)).toArray ++ Builtin.zeroCells (Value.agg #[.int .i64 0, .int .i64 0]).cells (L.length + 1 - i) ++ Builtin.zeroCells (Value.agg #[.int .i64 0, .int .i64 0]).cells (G - (L.length + 1)) = ROW := ⟨_, rfl⟩
  rw [hROW] at hrz
  have hz2 : (Value.agg #[.int .i64 0, .int .i64 0]).cells.size = 2 := by rfl
  have hpt : (prs (L.take i)).length = i * 2 := by rw [prs_len, List.length_take]; omega
  have hRs : ROW.size = G * 2 := by
    rw [← hROW, Array.size_append, Array.size_append, zeros_len, zeros_len, hz2, List.size_toArray, hpt]; omega
  have hRt : ROW.toList.take (i * 2) = prs (L.take i) := by
    rw [← hROW, Array.toList_append, Array.toList_append, List.append_assoc]
    exact take_app_len _ _ _ hpt
  obtain ⟨H, hH⟩ : ∃ H, w.heap.size = H := ⟨_, rfl⟩
  obtain ⟨W1, hW1⟩ : ∃ W1, w.drew.alloc (.cells ROW 86) = W1 := ⟨_, rfl⟩
  have hR1 : W1.heap[H]? = some (.cells ROW 86 (0, 0)) := by rw [← hW1, ← hH]; exact heap_alloc_new w.drew _
  have gW1 : w.grownBy W1 (some g) := by rw [← hW1]; exact grown_trans (grown_drew (grown_refl w _)) (World.grownBy_alloc w.drew _ _)
  rw [hW1, hH] at hrz
  have hOb : ∀ b j v, b < H → w.cell? ⟨b, j, none⟩ = some v → W1.cell? ⟨b, j, none⟩ = some v := fun b j v hb h => by rw [← hW1, World.cell?_alloc_past (w := w.drew) _ b j (by show b < w.heap.size; omega)]; exact h
  have c0 : W1.cell? ⟨vb, 0, none⟩ = some (.int .i64 p.1) := hOb _ _ _ (by omega) (row_cell hvb 0)
  have c1 : W1.cell? ⟨vb, 1, none⟩ = some p.2 := hOb _ _ _ (by omega) (row_cell hvb 1)
  have hgH : g ≠ H := by omega
  have hvH : vb ≠ H := by omega
  have hcell : ∀ j, j < G * 2 → (W1.cell? ⟨H, j, none⟩).isSome = true := fun j hj => by
    rw [row_cell hR1, Array.getElem?_eq_getElem (by omega)]; rfl
  have hfz : ∀ j, W1.frozen? ⟨H, j, none⟩ = false := fun j => row_froz hR1 j
  have hcpA : ∀ ty dc, (Builtin.copy_ #[82, 82] ty #[.slice (some ⟨H, i * 2, none⟩) (L.length + 1 - i) dc, .slice (some ⟨vb, 0, none⟩) 1 1]).run Try.prog W1 = .ok (goInt ((1 : Nat) : Int)) (W1.setCells H (i * 2) [.int .i64 p.1, p.2]) := fun ty dc =>
    run_copy_sz W1 _ _ ty 86 H (i * 2) _ dc ⟨vb, 0, none⟩ _ 1 2 1 [.int .i64 p.1, p.2] Try.underlying82 hsz (by simp only [Nat.min_def]; split <;> omega) rfl
      (fun j u hj => by
        rw [Addr.add_lit, Nat.zero_add]
        rcases j with _ | _ | j
        · simp at hj; subst hj; exact c0
        · simp at hj; subst hj; exact c1
        · simp at hj)
      (fun j hj => hcell _ (by simp at hj; omega)) (fun j hj => hfz _)
      (fun u hu => by
        simp only [List.mem_cons, List.not_mem_nil, or_false] at hu
        rcases hu with rfl | rfl
        · rfl
        · exact hx)
  obtain ⟨W2, hW2⟩ : ∃ W2, W1.setCells H (i * 2) [.int .i64 p.1, p.2] = W2 := ⟨_, rfl⟩
  rw [hW2] at hcpA
  have hld : (L.drop i).length = L.length - i := by simp
  have hpd : (prs (L.drop i)).length = (L.length - i) * 2 := by rw [prs_len, hld]
  have hcpB : ∀ ty dc sc, (Builtin.copy_ #[82, 82] ty #[.slice (some ⟨H, (i + 1) * 2, none⟩) (L.length - i) dc, .slice (some ⟨g, i * 2, none⟩) (L.length - i) sc]).run Try.prog W2.drew = .ok (goInt ((L.length - i : Nat) : Int)) (W2.drew.setCells H ((i + 1) * 2) (prs (L.drop i))) := fun ty dc sc =>
    run_copy_sz W2.drew _ _ ty 86 H ((i + 1) * 2) _ dc ⟨g, i * 2, none⟩ _ sc 2 (L.length - i) (prs (L.drop i)) Try.underlying82 hsz (by simp only [Nat.min_def]; split <;> omega) hpd
      (fun j u hj => by
        rw [Addr.add_lit]
        rw [← prs_drop, List.getElem?_drop] at hj
        show W2.cell? _ = _
        rw [← hW2, World.cell?_setCells_out H _ _ _ _ (fun h _ => absurd h hgH)]
        exact hOb _ _ _ (by omega) (row_at (w := w) hg hnc hcs htk _ _ hj))
      (fun j hj => by
        show (W2.cell? _).isSome = true
        rw [← hW2]; exact isSome_setCells H [.int .i64 p.1, p.2] (i * 2) W1 (fun t ht => hcell (i * 2 + t) (by simp at ht; omega)) ((i + 1) * 2 + j) (hcell ((i + 1) * 2 + j) (by rw [hpd] at hj; omega)))
      (fun j hj => by show W2.frozen? _ = _; rw [← hW2, World.frozen?_setCells]; exact hfz _) (hones.drop i).cells
  obtain ⟨W3, hW3⟩ : ∃ W3, W2.drew.setCells H ((i + 1) * 2) (prs (L.drop i)) = W3 := ⟨_, rfl⟩
  rw [hW3] at hcpB
  have hG63 : G ≤ 9223372036854775807 := by unfold maxLen at hle; omega
  have g3 : w.grownBy W3 (some g) := by
    rw [← hW3]
    refine grown_past (g := H) (w' := W2.drew) (grown_drew ?_) (grown_setCells H _ _ _) (by omega)
    rw [← hW2]
    exact grown_past gW1 (grown_setCells H _ _ _) (by omega)
  have FIN : Hid (OwnP 86 W3 B (.slice (some ⟨H, 0, none⟩) (L.length + 1) G) (L.take i ++ p :: L.drop i) ∧ w.grownBy W3 (some g)) :=
    ⟨new_row hR1 (by omega) hG63 hRs hge i (by omega) hRt p W3 W2 hW2.symm W2.drew rfl hW3.symm, g3⟩
  have b3 : Hid (∀ B', B' ≤ g → B' ≤ w.heap.size → Below B' w W3) := fun B' h1 h2 => (Below.refl B' w).grown g3 h2 (fun k hk => by injection hk with hk; omega)
  have b4 : Hid (Below B w W3) := by
    refine ⟨g3.os, g3.tape, g3.output, g3.size, fun k hk => ?_⟩
    have e3 : W3.heap[k]? = W2.heap[k]? := by rw [← hW3]; exact World.heap_setCells_other W2.drew H _ _ (by show k < W2.heap.size; rw [← hW2]; have := (grown_setCells H [.int .i64 p.1, p.2] (i * 2) W1).size; have := gW1.size; omega) (by omega)
    have e2 : W2.heap[k]? = W1.heap[k]? := by rw [← hW2]; exact World.heap_setCells_other W1 H _ _ (by have := gW1.size; omega) (by omega)
    have e1 : W1.heap[k]? = w.heap[k]? := by rw [← hW1]; exact heap_alloc_old w.drew _ (by show k < w.heap.size; omega)
    rw [e3, e2, e1]
  obtain ⟨n, hn⟩ : ∃ n, L.length = n := ⟨_, rfl⟩
  rw [hn] at hl hi hroom hnc hrz hcpA hcpB FIN hge ⊢
  have HHH : Hid (w.heap.size = H) := hH
  have hz1 : ¬ ((i : Int) = (n : Int)) := by omega
  have hz3 : (cap : Int) < (n : Int) + 1 := by omega
  have hw1 : IntKind.i64.wrap ((i : Int) + 1) = (i : Int) + 1 := by rw [IntKind.wrap_i64]; omega
  have htn : ((i : Int) + 1).toNat = i + 1 := by omega
  have hb1 : (0 : Int) ≤ (i : Int) + 1 := by omega
  have hb2 : ¬ (G = i + 1) := by omega
  have hb3 : (i : Int) ≤ (n : Int) + 1 := by omega
  have hb4 : ¬ (cap = i) := by omega
  have hb5 : ¬ (G = i) := by omega
  have hin : i ≤ n := by omega
  have hiG : i ≤ G := by omega
  have hic : i ≤ cap := by omega
  clear hn hW1 hW2 hW3 hpd hld hfz hcell c0 c1 hvb hg htk hcs hones hOb gW1 hR1 hRt hRs hpt hz2 hROW hG hold hi0 hz0 hzs hzb hsz hgw hvw hH hgH hvH g3 hik hle
  go_enter Try.func36, Try.ntmps36
  go_wp2_with (first
    | (at_builtin; refine Lib.wpList_append_run _ rfl _ _ _ _ rfl _ _ rfl rfl _ _ (hrz _) ?_)
    | (at_builtin; refine wpList_copy_runI _ rfl _ _ 82 82 rfl _ _ rfl rfl (hcpA _ _) ?_))
  go_region_law (refine step_copy_runI rfl _ _ 82 82 rfl _ _ (by simp [Act.eval, Act.put]) (by simp [Act.eval, Act.put]) (hcpB _ _ _) ?_)
  go_wp2_with fail
  go_ret
  exact ⟨_, rfl, FIN.out.1, ⟨b4.out, FIN.out.2, Or.inr (by rw [HHH.out]; rfl)⟩⟩
set_option maxHeartbeats 4000000 in
/-- slices.Delete of the first one. -/
theorem del_oneI (w : World) (B : Nat) (L : List Pr) (hones : Ones L) (m : Nat) (hn : L.length = m + 1) (g cap : Nat) (hown : OwnP 86 w B (.slice (some ⟨g, 0, none⟩) (m + 1) cap) L) (hl : L.length ≤ 1000) :
    Calls Try.prog 47 #[.slice (some ⟨g, 0, none⟩) (m + 1) cap, .int .i64 0, .int .i64 1] w fun e w' => e = .returned (.slice (some ⟨g, 0, none⟩) m cap) ∧ OwnP 86 w' B (.slice (some ⟨g, 0, none⟩) m cap) L.tail ∧ w.grownBy w' (some g) := by
  have hL : L ≠ [] := by intro h; rw [h] at hn; simp at hn
  obtain ⟨i0, hi0, hz0, hzs, hzb⟩ := info_parts infoI
  obtain ⟨g', cap', cur, hv, hBg, hg, hc, hm, hcs, htk⟩ := hown.some_ hL
  injection hv with h1 h2 h3; injection h1 with h1; injection h1 with h1 _ _; subst h1; subst h3
  clear h2
  have htl : L.tail.length = m := by rw [List.length_tail]; omega
  have hpt : (prs L.tail).length = m * 2 := by rw [prs_len, htl]
  have hcell : ∀ j, j < cap * 2 → (w.cell? ⟨g, j, none⟩).isSome = true := fun j hj => by
    rw [row_cell hg, Array.getElem?_eq_getElem (by omega)]; rfl
  have hfz : ∀ j, w.frozen? ⟨g, j, none⟩ = false := fun j => row_froz hg j
  have hdrop : (prs L).drop 2 = prs L.tail := by
    have := prs_drop L 1
    rw [List.drop_one] at this
    exact this
  obtain ⟨A, hA, hsrc⟩ : ∃ A : Addr, (if cap = 1 then some (⟨g, 0, none⟩ : Addr) else some ⟨g, 2, none⟩) = some A ∧ Hid (∀ t u, (prs L.tail)[t]? = some u → w.drew.cell? (A.add t) = some u) := by
    by_cases h : cap = 1
    · refine ⟨⟨g, 0, none⟩, by simp [h], fun t u hu => ?_⟩
      have h0 : L.tail = [] := List.eq_nil_of_length_eq_zero (by omega)
      rw [h0, prs_nil] at hu; simp at hu
    · refine ⟨⟨g, 2, none⟩, by simp [h], fun t u hu => ?_⟩
      rw [Addr.add_lit]
      rw [← hdrop, List.getElem?_drop] at hu
      exact row_at (w := w) hg hc hcs htk _ _ hu
  have s1 : Hid ((prs L.tail).length = m * 2) := hpt
  have s2 : Hid (∀ u ∈ prs L.tail, u.oneCell' = true) := hones.tail.cells
  have s3 : Hid (∀ t, t < (prs L.tail).length → (w.drew.cell? ⟨g, 0 + 0 * 2 + t, none⟩).isSome = true ∧ w.drew.frozen? ⟨g, 0 + 0 * 2 + t, none⟩ = false) := fun t ht =>
    ⟨hcell _ (by rw [hpt] at ht; omega), hfz _⟩
  obtain ⟨W1, hW1⟩ : ∃ W1, w.drew.setCells g (0 + 0 * 2) (prs L.tail) = W1 := ⟨_, rfl⟩
  have hW : Hid (w.drew.setCells g (0 + 0 * 2) (prs L.tail) = W1) := hW1
  have hcl : ∀ ty c, (Builtin.clear_ #[82] ty #[.slice (some ⟨g, m * 2, none⟩) 1 c]).run Try.prog W1 = .ok (.tuple #[]) (W1.setCells g (m * 2) (Value.agg #[.int .i64 0, .int .i64 0]).cells.toList) := fun ty c =>
    run_clear_one W1 _ _ ty _ Try.underlying82 zeroI g (m * 2) c
      (fun j hj => by
        have hj' : j < 2 := hj
        rw [← hW1]; exact isSome_setCells g (prs L.tail) (0 + 0 * 2) w.drew (fun t ht => hcell (0 + 0 * 2 + t) (by rw [hpt] at ht; omega)) (m * 2 + j) (hcell (m * 2 + j) (by omega)))
      (fun j hj => by rw [← hW1, World.frozen?_setCells]; exact hfz _)
      (fun u hu => by
        have hu' : u ∈ [Value.int .i64 0, .int .i64 0] := hu
        simp only [List.mem_cons, List.not_mem_nil, or_false] at hu'
        rcases hu' with rfl | rfl <;> rfl)
  obtain ⟨W2, hW2⟩ : ∃ W2, W1.setCells g (m * 2) (Value.agg #[.int .i64 0, .int .i64 0]).cells.toList = W2 := ⟨_, rfl⟩
  rw [hW2] at hcl
  have FIN : Hid (OwnP 86 W2 B (.slice (some ⟨g, 0, none⟩) m cap) L.tail ∧ w.grownBy W2 (some g)) := by
    refine ⟨?_, ?_⟩
    · have := tail_row (w := w.drew) hL hg hBg hm hcs hc W2 W1 hW1.symm W1 rfl (Value.agg #[.int .i64 0, .int .i64 0]).cells.toList rfl (by rw [show L.length - 1 = m by omega]; exact hW2.symm)
      rw [show L.length - 1 = m by omega] at this
      exact this
    · rw [← hW2, ← hW1]; exact grown_trans ((grown_drew (grown_refl w _))) (grown_trans (grown_setCells g _ _ _) (grown_setCells g _ _ _))
  have hmc : m + 1 ≤ cap := by omega
  have hm1 : m ≤ 999 := by omega
  have hb1 : ¬ (cap = 0) := by omega
  have hb2 : ¬ (cap = m) := by omega
  have hb3 : (1 : Int) ≤ (m : Int) + 1 := by omega
  have hb4 : 1 ≤ cap := by omega
  have hb5 : m ≤ cap := by omega
  clear hW1 hW2 hpt hcell hfz hdrop hg htk hcs hones hi0 hz0 hzs hzb hown hc hl htl hn
  go_enter Try.func47, Try.ntmps47
  obtain ⟨i0, hi0, hz0, hzs, hzb⟩ := info_parts infoI
  have H0 : Hid (Try.prog.info? 86 = some i0) := hi0
  have H1 : Hid (i0.size = 2) := hzs
  clear hi0 hz0 hzs hzb
  go_wp2_with fail
  go_region_law (refine step_append_room rfl (.tmp 22) (.tmp 25) 82 rfl 86 i0 2 Try.underlying82 H0.out H1.out g 0 0 cap (by simp [Act.eval, Act.put]) A m (cap - 1) (prs L.tail) (by simp [Act.eval, Act.put]) s1.out hsrc.out s2.out (by omega) s3.out ?_; rw [hW.out])
  go_wp2_with fail
  go_ret
  exact ⟨rfl, FIN.out⟩
theorem infoJ : (Try.prog.info? 92).map (fun i => (i.zero, i.size, i.bytes)) = some (some (.agg #[.int .i64 0, .int .i64 0]), 2, 16) := by kernel_rfl
theorem zeroJ (w : World) : (zeroValue 92).run Try.prog w = .ok (.agg #[.int .i64 0, .int .i64 0]) w := by kernel_rfl
set_option maxHeartbeats 4000000 in
/-- slices.Insert at the end. -/
theorem ins_endJ (w : World) (B : Nat) (hB : B ≤ w.heap.size) (v : Value) (L : List Pr) (hown : OwnP 92 w B v L) (hl : L.length ≤ 1000) (p : Pr) (hx : p.2.oneCell' = true) (vb : Nat)
    (hvb : w.heap[vb]? = some (.cells #[.int .i64 p.1, p.2] 92 (0, 0))) :
    Calls Try.prog 39 #[v, .int .i64 (L.length : Nat), .slice (some ⟨vb, 0, none⟩) 1 1] w fun e w' => ∃ v', e = .returned v' ∧ OwnP 92 w' B v' (L ++ [p]) ∧ Grow B v w v' w' := by
  have HO : Hid (OwnP 92 w B v L) := hown
  have c0 : w.cell? ⟨vb, 0, none⟩ = some (.int .i64 p.1) := row_cell hvb 0
  have c1 : w.cell? ⟨vb, 1, none⟩ = some p.2 := row_cell hvb 1
  obtain ⟨ao, cap, rfl, h1, h2, h3⟩ := hown.form
  obtain ⟨n, hn⟩ : ∃ n, L.length = n := ⟨_, rfl⟩
  rw [hn] at h1 HO hl ⊢
  have HN := (show Hid _ from hn)
  have HB : Hid (B ≤ w.heap.size) := hB
  clear hn hvb hown hB
  rcases ao with _ | ⟨g, o, sp⟩
  · obtain rfl := h3 rfl
    obtain rfl : n = 0 := by omega
    clear h3
    go_enter Try.func39, Try.ntmps39
    go_wp2_with (at_builtin; refine growP_wp rfl 88 92 (.int .i64 0) 16 Try.underlying88 infoJ (by decide) (by rfl) _ _ rfl B _ L rfl (by exact HO.out) vb 0 p 1 rfl c0 c1 hx (by rw [HN.out]; omega) HB.out ?_; intro v' w' o1 g1)
    go_ret
    exact ⟨_, rfl, o1, g1⟩
  clear h3
  by_cases hcn : cap = n
  · subst hcn
    go_enter Try.func39, Try.ntmps39
    go_wp2_with (at_builtin; refine growP_wp rfl 88 92 (.int .i64 0) 16 Try.underlying88 infoJ (by decide) (by rfl) _ _ rfl B (.slice (some ⟨g, o, sp⟩) cap cap) L rfl (by exact HO.out) vb 0 p 1 rfl c0 c1 hx (by rw [HN.out]; omega) HB.out ?_; intro v' w' o1 g1)
    go_ret
    exact ⟨_, rfl, o1, g1⟩
  · go_enter Try.func39, Try.ntmps39
    go_wp2_with (at_builtin; refine growP_wp rfl 88 92 (.int .i64 0) 16 Try.underlying88 infoJ (by decide) (by rfl) _ _ rfl B (.slice (some ⟨g, o, sp⟩) n cap) L rfl (by exact HO.out) vb 0 p 1 rfl c0 c1 hx (by rw [HN.out]; omega) HB.out ?_; intro v' w' o1 g1)
    go_ret
    exact ⟨_, rfl, o1, g1⟩
set_option maxHeartbeats 4000000 in
/-- slices.Insert between, where there is room. -/
theorem ins_roomJ (w : World) (B : Nat) (L : List Pr) (hones : Ones L) (g cap : Nat) (cur : Array Value) (hg : w.heap[g]? = some (.cells cur 92 (0, 0))) (hBg : B ≤ g) (hcs : cur.size = cap * 2) (htk : cur.toList.take (L.length * 2) = prs L)
    (hl : L.length ≤ 1000) (i : Nat) (hi : i < L.length) (hroom : L.length + 1 ≤ cap) (hm : cap ≤ 9223372036854775807) (p : Pr) (hx : p.2.oneCell' = true) (vb : Nat)
    (hvb : w.heap[vb]? = some (.cells #[.int .i64 p.1, p.2] 92 (0, 0))) (hne : vb ≠ g) :
    Calls Try.prog 39 #[.slice (some ⟨g, 0, none⟩) L.length cap, .int .i64 i, .slice (some ⟨vb, 0, none⟩) 1 1] w fun e w' => e = .returned (.slice (some ⟨g, 0, none⟩) (L.length + 1) cap) ∧ OwnP 92 w' B (.slice (some ⟨g, 0, none⟩) (L.length + 1) cap) (L.take i ++ p :: L.drop i) ∧ w.grownBy w' (some g) := by
  have hsz : (Try.prog.info? 92).map (·.size) = some 2 := by
    obtain ⟨i0, hi0, h0, h1, h2⟩ := info_parts infoJ
    rw [hi0]; simp [h1]
  have c0 : w.cell? ⟨vb, 0, none⟩ = some (.int .i64 p.1) := row_cell hvb 0
  have c1 : w.cell? ⟨vb, 1, none⟩ = some p.2 := row_cell hvb 1
  have hov : ∀ o lb cb, (callFunc 49 #[.slice (some ⟨vb, 0, none⟩) 1 1, .slice (some ⟨g, o, none⟩) lb cb]).run Try.prog w = .ok (.value (.bool false)) w := fun o lb cb => by
    rw [run_callFunc_extern Try.func49 (by kernel_rfl) (by kernel_rfl) (by kernel_rfl) (e := Extern.SlicesOverlaps.overlaps #[88, 88] #[4]) (by kernel_rfl),
      Lib.run_overlaps_apart w 88 4 92 Try.underlying88 2 Try.sizeOf92 ⟨vb, 0, none⟩ ⟨g, o, none⟩ 1 1 lb cb hne 92 92 2 cur.size (by simp [World.shape?, hvb]) (by simp [World.shape?, hg]) (by omega) (row_froz hvb 0) (row_froz hvb 2)]
    rfl
  have hcell : ∀ j, j < cap * 2 → (w.cell? ⟨g, j, none⟩).isSome = true := fun j hj => by
    rw [row_cell hg, Array.getElem?_eq_getElem (by omega)]; rfl
  have hfz : ∀ j, w.frozen? ⟨g, j, none⟩ = false := fun j => row_froz hg j
  have hld : (L.drop i).length = L.length - i := by simp
  have hpd : (prs (L.drop i)).length = (L.length - i) * 2 := by rw [prs_len, hld]
  have hcp1 : ∀ ty dc sc, (Builtin.copy_ #[88, 88] ty #[.slice (some ⟨g, (i + 1) * 2, none⟩) (L.length - i) dc, .slice (some ⟨g, i * 2, none⟩) (L.length + 1 - i) sc]).run Try.prog w.drew = .ok (goInt ((L.length - i : Nat) : Int)) (w.drew.setCells g ((i + 1) * 2) (prs (L.drop i))) := fun ty dc sc =>
    run_copy_sz w.drew _ _ ty 92 g ((i + 1) * 2) _ dc ⟨g, i * 2, none⟩ _ sc 2 (L.length - i) (prs (L.drop i)) Try.underlying88 hsz (by simp only [Nat.min_def]; split <;> omega) hpd
      (fun j u hj => by
        rw [Addr.add_lit]
        rw [← prs_drop, List.getElem?_drop] at hj
        exact row_at (w := w) hg (by omega) hcs htk _ _ hj)
      (fun j hj => hcell _ (by omega)) (fun j hj => hfz _) (hones.drop i).cells
  obtain ⟨W1, hW1⟩ : ∃ W1, w.drew.setCells g ((i + 1) * 2) (prs (L.drop i)) = W1 := ⟨_, rfl⟩
  have hcp2 : ∀ (W : World), (∀ x, W.cell? x = W1.cell? x) → (∀ x, W.frozen? x = W1.frozen? x) → ∀ ty dc, (Builtin.copy_ #[88, 88] ty #[.slice (some ⟨g, i * 2, none⟩) (L.length + 1 - i) dc, .slice (some ⟨vb, 0, none⟩) 1 1]).run Try.prog W = .ok (goInt ((1 : Nat) : Int)) (W.setCells g (i * 2) [.int .i64 p.1, p.2]) := fun W hWc hWf ty dc =>
    run_copy_sz W _ _ ty 92 g (i * 2) _ dc ⟨vb, 0, none⟩ _ 1 2 1 [.int .i64 p.1, p.2] Try.underlying88 hsz (by simp only [Nat.min_def]; split <;> omega) rfl
      (fun j u hj => by
        rw [Addr.add_lit, Nat.zero_add, hWc, ← hW1, World.cell?_setCells_out g _ _ _ _ (fun h _ => absurd h hne)]
        rcases j with _ | _ | j
        · simp at hj; subst hj; exact c0
        · simp at hj; subst hj; exact c1
        · simp at hj)
      (fun j hj => by rw [hWc, ← hW1]; exact isSome_setCells g (prs (L.drop i)) ((i + 1) * 2) w.drew (fun t ht => hcell ((i + 1) * 2 + t) (by rw [hpd] at ht; omega)) (i * 2 + j) (hcell (i * 2 + j) (by simp at hj; omega))) (fun j hj => by rw [hWf, ← hW1, World.frozen?_setCells]; exact hfz _)
      (fun u hu => by
        simp only [List.mem_cons, List.not_mem_nil, or_false] at hu
        rcases hu with rfl | rfl
        · rfl
        · exact hx)
  rw [hW1] at hcp1
  have FIN : Hid (OwnP 92 (W1.setCells g (i * 2) [.int .i64 p.1, p.2]) B (.slice (some ⟨g, 0, none⟩) (L.length + 1) cap) (L.take i ++ p :: L.drop i) ∧ w.grownBy (W1.setCells g (i * 2) [.int .i64 p.1, p.2]) (some g)) :=
    ⟨laid_row (w := w.drew) hg hBg hm hcs hroom htk i (by omega) p _ W1 hW1.symm W1 rfl rfl, by rw [← hW1]; exact grown_trans ((grown_drew (grown_refl w _))) (grown_trans (grown_setCells g _ _ _) (grown_setCells g _ _ _))⟩
  obtain ⟨n, hn⟩ : ∃ n, L.length = n := ⟨_, rfl⟩
  obtain ⟨pd, hpdd⟩ : ∃ pd, prs (L.drop i) = pd := ⟨_, rfl⟩
  rw [hn] at hl hi hroom hcp1 hcp2 FIN ⊢
  have hz1 : ¬ ((i : Int) = (n : Int)) := by omega
  have hw1 : IntKind.i64.wrap ((i : Int) + 1) = (i : Int) + 1 := by rw [IntKind.wrap_i64]; omega
  have htn : ((i : Int) + 1).toNat = i + 1 := by omega
  have hb1 : (0 : Int) ≤ (i : Int) + 1 := by omega
  have hb2 : ¬ (cap = i + 1) := by omega
  have hb3 : (i : Int) ≤ (n : Int) + 1 := by omega
  have hb4 : ¬ (cap = i) := by omega
  have hin : i ≤ n := by omega
  clear hn hpdd hW1 hpd hld hfz hcell c0 c1 hvb hg htk hcs hones
  go_enter Try.func39, Try.ntmps39
  go_wp2_with (simp only [hov])
  go_region_law (refine step_copy_runI rfl _ _ 88 88 rfl _ _ (by simp [Act.eval, Act.put]) (by simp [Act.eval, Act.put]) (hcp1 _ _ _) ?_)
  go_wp2_with (at_builtin; refine wpList_copy_runI _ rfl _ _ 88 88 rfl _ _ rfl rfl (hcp2 _ (fun _ => rfl) (fun _ => rfl) _ _) ?_)
  go_ret
  exact ⟨rfl, FIN.out⟩
set_option maxHeartbeats 4000000 in
/-- slices.Insert between, where there is no room. -/
theorem ins_growJ (w : World) (B : Nat) (hB : B ≤ w.heap.size) (L : List Pr) (hones : Ones L) (g cap : Nat) (cur : Array Value) (hg : w.heap[g]? = some (.cells cur 92 (0, 0))) (hcs : cur.size = cap * 2) (htk : cur.toList.take (L.length * 2) = prs L)
    (hl : L.length ≤ 1000) (i : Nat) (hi : i < L.length) (hnc : L.length ≤ cap) (hroom : cap < L.length + 1) (p : Pr) (hx : p.2.oneCell' = true) (vb : Nat)
    (hvb : w.heap[vb]? = some (.cells #[.int .i64 p.1, p.2] 92 (0, 0))) :
    Calls Try.prog 39 #[.slice (some ⟨g, 0, none⟩) L.length cap, .int .i64 i, .slice (some ⟨vb, 0, none⟩) 1 1] w fun e w' => ∃ v', e = .returned v' ∧ OwnP 92 w' B v' (L.take i ++ p :: L.drop i) ∧ Grow B (.slice (some ⟨g, 0, none⟩) L.length cap) w v' w' := by
  obtain ⟨i0, hi0, hz0, hzs, hzb⟩ := info_parts infoJ
  have hsz : (Try.prog.info? 92).map (·.size) = some 2 := by rw [hi0]; simp [hzs]
  have hgw : g < w.heap.size := (Array.getElem?_eq_some_iff.1 hg).1
  have hvw : vb < w.heap.size := (Array.getElem?_eq_some_iff.1 hvb).1
  have hold : (Builtin.firstCells i0.size i (.slice (some ⟨g, 0, none⟩) i cap)).run Try.prog w.drew = .ok (prs (L.take i)).toArray w.drew := by
    rw [hzs]
    refine run_firstCells_some w.drew 2 i ⟨g, 0, none⟩ i cap (prs (L.take i)) (by rw [prs_len, List.length_take]; omega) (fun j u hj => ?_)
    rw [Addr.add_lit, Nat.zero_add]
    rw [← prs_take, List.getElem?_take] at hj
    split at hj
    · exact row_at (w := w) hg hnc hcs htk _ _ hj
    · cases hj
  have hge := grownCap_ge w (L.length + 1) cap 92
  have hle := grownCap_le_maxLen w (L.length + 1) cap 92 (by unfold maxLen; omega)
  have hik : i + (L.length + 1 - i) = L.length + 1 := by omega
  have hrz : ∀ ty, (Builtin.append_ #[88, 3] ty #[.slice (some ⟨g, 0, none⟩) i cap, .int .i64 ((L.length : Int) + 1 - (i : Int))]).run Try.prog w = .ok (.slice (some ⟨w.heap.size, 0, none⟩) (L.length + 1) (grownCap w (L.length + 1) cap 92)) (w.drew.alloc (.cells ((prs (L.take i)).toArray ++ Builtin.zeroCells (Value.agg #[.int .i64 0, .int .i64 0]).cells (L.length + 1 - i) ++ Builtin.zeroCells (Value.agg #[.int .i64 0, .int .i64 0]).cells (grownCap w (L.length + 1) cap 92 - (L.length + 1))) 92)) := fun ty => by
    have h := Lib.run_append_grow_zeros (P := Try.prog) w 88 3 ty 92 i0 (.agg #[.int .i64 0, .int .i64 0]) .i64 .i64 Try.underlying88 Try.underlying3 hi0 hz0 (some ⟨g, 0, none⟩) i cap (prs (L.take i)) hold (L.length + 1 - i) (by omega) (by omega) (by omega) (by omega) (by rw [hzb]; omega) (by rw [hzb, hik]; exact growslice_fits hroom (by omega))
    rw [hik, show (((L.length + 1 - i : Nat) : Int)) = (L.length : Int) + 1 - (i : Int) by omega] at h
    exact h
  obtain ⟨G, hG⟩ : ∃ G, grownCap w (L.length + 1) cap 92 = G := ⟨_, rfl⟩
  rw [hG] at hrz hge hle
  obtain ⟨ROW, hROW⟩ : ∃ ROW : Array Value, (prs (L.take i)).toArray ++ Builtin.zeroCells (Value.agg #[.int .i64 0, .int .i64 0]).cells (L.length + 1 - i) ++ Builtin.zeroCells (Value.agg #[.int .i64 0, .int .i64 0]).cells (G - (L.length + 1)) = ROW := ⟨_, rfl⟩
  rw [hROW] at hrz
  have hz2 : (Value.agg #[.int .i64 0, .int .i64 0]).cells.size = 2 := by rfl
  have hpt : (prs (L.take i)).length = i * 2 := by rw [prs_len, List.length_take]; omega
  have hRs : ROW.size = G * 2 := by
    rw [← hROW, Array.size_append, Array.size_append, zeros_len, zeros_len, hz2, List.size_toArray, hpt]; omega
  have hRt : ROW.toList.take (i * 2) = prs (L.take i) := by
    rw [← hROW, Array.toList_append, Array.toList_append, List.append_assoc]
    exact take_app_len _ _ _ hpt
  obtain ⟨H, hH⟩ : ∃ H, w.heap.size = H := ⟨_, rfl⟩
  obtain ⟨W1, hW1⟩ : ∃ W1, w.drew.alloc (.cells ROW 92) = W1 := ⟨_, rfl⟩
  have hR1 : W1.heap[H]? = some (.cells ROW 92 (0, 0)) := by rw [← hW1, ← hH]; exact heap_alloc_new w.drew _
  have gW1 : w.grownBy W1 (some g) := by rw [← hW1]; exact grown_trans (grown_drew (grown_refl w _)) (World.grownBy_alloc w.drew _ _)
  rw [hW1, hH] at hrz
  have hOb : ∀ b j v, b < H → w.cell? ⟨b, j, none⟩ = some v → W1.cell? ⟨b, j, none⟩ = some v := fun b j v hb h => by rw [← hW1, World.cell?_alloc_past (w := w.drew) _ b j (by show b < w.heap.size; omega)]; exact h
  have c0 : W1.cell? ⟨vb, 0, none⟩ = some (.int .i64 p.1) := hOb _ _ _ (by omega) (row_cell hvb 0)
  have c1 : W1.cell? ⟨vb, 1, none⟩ = some p.2 := hOb _ _ _ (by omega) (row_cell hvb 1)
  have hgH : g ≠ H := by omega
  have hvH : vb ≠ H := by omega
  have hcell : ∀ j, j < G * 2 → (W1.cell? ⟨H, j, none⟩).isSome = true := fun j hj => by
    rw [row_cell hR1, Array.getElem?_eq_getElem (by omega)]; rfl
  have hfz : ∀ j, W1.frozen? ⟨H, j, none⟩ = false := fun j => row_froz hR1 j
  have hcpA : ∀ ty dc, (Builtin.copy_ #[88, 88] ty #[.slice (some ⟨H, i * 2, none⟩) (L.length + 1 - i) dc, .slice (some ⟨vb, 0, none⟩) 1 1]).run Try.prog W1 = .ok (goInt ((1 : Nat) : Int)) (W1.setCells H (i * 2) [.int .i64 p.1, p.2]) := fun ty dc =>
    run_copy_sz W1 _ _ ty 92 H (i * 2) _ dc ⟨vb, 0, none⟩ _ 1 2 1 [.int .i64 p.1, p.2] Try.underlying88 hsz (by simp only [Nat.min_def]; split <;> omega) rfl
      (fun j u hj => by
        rw [Addr.add_lit, Nat.zero_add]
        rcases j with _ | _ | j
        · simp at hj; subst hj; exact c0
        · simp at hj; subst hj; exact c1
        · simp at hj)
      (fun j hj => hcell _ (by simp at hj; omega)) (fun j hj => hfz _)
      (fun u hu => by
        simp only [List.mem_cons, List.not_mem_nil, or_false] at hu
        rcases hu with rfl | rfl
        · rfl
        · exact hx)
  obtain ⟨W2, hW2⟩ : ∃ W2, W1.setCells H (i * 2) [.int .i64 p.1, p.2] = W2 := ⟨_, rfl⟩
  rw [hW2] at hcpA
  have hld : (L.drop i).length = L.length - i := by simp
  have hpd : (prs (L.drop i)).length = (L.length - i) * 2 := by rw [prs_len, hld]
  have hcpB : ∀ ty dc sc, (Builtin.copy_ #[88, 88] ty #[.slice (some ⟨H, (i + 1) * 2, none⟩) (L.length - i) dc, .slice (some ⟨g, i * 2, none⟩) (L.length - i) sc]).run Try.prog W2.drew = .ok (goInt ((L.length - i : Nat) : Int)) (W2.drew.setCells H ((i + 1) * 2) (prs (L.drop i))) := fun ty dc sc =>
    run_copy_sz W2.drew _ _ ty 92 H ((i + 1) * 2) _ dc ⟨g, i * 2, none⟩ _ sc 2 (L.length - i) (prs (L.drop i)) Try.underlying88 hsz (by simp only [Nat.min_def]; split <;> omega) hpd
      (fun j u hj => by
        rw [Addr.add_lit]
        rw [← prs_drop, List.getElem?_drop] at hj
        show W2.cell? _ = _
        rw [← hW2, World.cell?_setCells_out H _ _ _ _ (fun h _ => absurd h hgH)]
        exact hOb _ _ _ (by omega) (row_at (w := w) hg hnc hcs htk _ _ hj))
      (fun j hj => by
        show (W2.cell? _).isSome = true
        rw [← hW2]; exact isSome_setCells H [.int .i64 p.1, p.2] (i * 2) W1 (fun t ht => hcell (i * 2 + t) (by simp at ht; omega)) ((i + 1) * 2 + j) (hcell ((i + 1) * 2 + j) (by rw [hpd] at hj; omega)))
      (fun j hj => by show W2.frozen? _ = _; rw [← hW2, World.frozen?_setCells]; exact hfz _) (hones.drop i).cells
  obtain ⟨W3, hW3⟩ : ∃ W3, W2.drew.setCells H ((i + 1) * 2) (prs (L.drop i)) = W3 := ⟨_, rfl⟩
  rw [hW3] at hcpB
  have hG63 : G ≤ 9223372036854775807 := by unfold maxLen at hle; omega
  have g3 : w.grownBy W3 (some g) := by
    rw [← hW3]
    refine grown_past (g := H) (w' := W2.drew) (grown_drew ?_) (grown_setCells H _ _ _) (by omega)
    rw [← hW2]
    exact grown_past gW1 (grown_setCells H _ _ _) (by omega)
  have FIN : Hid (OwnP 92 W3 B (.slice (some ⟨H, 0, none⟩) (L.length + 1) G) (L.take i ++ p :: L.drop i) ∧ w.grownBy W3 (some g)) :=
    ⟨new_row hR1 (by omega) hG63 hRs hge i (by omega) hRt p W3 W2 hW2.symm W2.drew rfl hW3.symm, g3⟩
  have b3 : Hid (∀ B', B' ≤ g → B' ≤ w.heap.size → Below B' w W3) := fun B' h1 h2 => (Below.refl B' w).grown g3 h2 (fun k hk => by injection hk with hk; omega)
  have b4 : Hid (Below B w W3) := by
    refine ⟨g3.os, g3.tape, g3.output, g3.size, fun k hk => ?_⟩
    have e3 : W3.heap[k]? = W2.heap[k]? := by rw [← hW3]; exact World.heap_setCells_other W2.drew H _ _ (by show k < W2.heap.size; rw [← hW2]; have := (grown_setCells H [.int .i64 p.1, p.2] (i * 2) W1).size; have := gW1.size; omega) (by omega)
    have e2 : W2.heap[k]? = W1.heap[k]? := by rw [← hW2]; exact World.heap_setCells_other W1 H _ _ (by have := gW1.size; omega) (by omega)
    have e1 : W1.heap[k]? = w.heap[k]? := by rw [← hW1]; exact heap_alloc_old w.drew _ (by show k < w.heap.size; omega)
    rw [e3, e2, e1]
  obtain ⟨n, hn⟩ : ∃ n, L.length = n := ⟨_, rfl⟩
  rw [hn] at hl hi hroom hnc hrz hcpA hcpB FIN hge ⊢
  have HHH : Hid (w.heap.size = H) := hH
  have hz1 : ¬ ((i : Int) = (n : Int)) := by omega
  have hz3 : (cap : Int) < (n : Int) + 1 := by omega
  have hw1 : IntKind.i64.wrap ((i : Int) + 1) = (i : Int) + 1 := by rw [IntKind.wrap_i64]; omega
  have htn : ((i : Int) + 1).toNat = i + 1 := by omega
  have hb1 : (0 : Int) ≤ (i : Int) + 1 := by omega
  have hb2 : ¬ (G = i + 1) := by omega
  have hb3 : (i : Int) ≤ (n : Int) + 1 := by omega
  have hb4 : ¬ (cap = i) := by omega
  have hb5 : ¬ (G = i) := by omega
  have hin : i ≤ n := by omega
  have hiG : i ≤ G := by omega
  have hic : i ≤ cap := by omega
  clear hn hW1 hW2 hW3 hpd hld hfz hcell c0 c1 hvb hg htk hcs hones hOb gW1 hR1 hRt hRs hpt hz2 hROW hG hold hi0 hz0 hzs hzb hsz hgw hvw hH hgH hvH g3 hik hle
  go_enter Try.func39, Try.ntmps39
  go_wp2_with (first
    | (at_builtin; refine Lib.wpList_append_run _ rfl _ _ _ _ rfl _ _ rfl rfl _ _ (hrz _) ?_)
    | (at_builtin; refine wpList_copy_runI _ rfl _ _ 88 88 rfl _ _ rfl rfl (hcpA _ _) ?_))
  go_region_law (refine step_copy_runI rfl _ _ 88 88 rfl _ _ (by simp [Act.eval, Act.put]) (by simp [Act.eval, Act.put]) (hcpB _ _ _) ?_)
  go_wp2_with fail
  go_ret
  exact ⟨_, rfl, FIN.out.1, ⟨b4.out, FIN.out.2, Or.inr (by rw [HHH.out]; rfl)⟩⟩
set_option maxHeartbeats 4000000 in
/-- slices.Delete of the first one. -/
theorem del_oneJ (w : World) (B : Nat) (L : List Pr) (hones : Ones L) (m : Nat) (hn : L.length = m + 1) (g cap : Nat) (hown : OwnP 92 w B (.slice (some ⟨g, 0, none⟩) (m + 1) cap) L) (hl : L.length ≤ 1000) :
    Calls Try.prog 51 #[.slice (some ⟨g, 0, none⟩) (m + 1) cap, .int .i64 0, .int .i64 1] w fun e w' => e = .returned (.slice (some ⟨g, 0, none⟩) m cap) ∧ OwnP 92 w' B (.slice (some ⟨g, 0, none⟩) m cap) L.tail ∧ w.grownBy w' (some g) := by
  have hL : L ≠ [] := by intro h; rw [h] at hn; simp at hn
  obtain ⟨i0, hi0, hz0, hzs, hzb⟩ := info_parts infoJ
  obtain ⟨g', cap', cur, hv, hBg, hg, hc, hm, hcs, htk⟩ := hown.some_ hL
  injection hv with h1 h2 h3; injection h1 with h1; injection h1 with h1 _ _; subst h1; subst h3
  clear h2
  have htl : L.tail.length = m := by rw [List.length_tail]; omega
  have hpt : (prs L.tail).length = m * 2 := by rw [prs_len, htl]
  have hcell : ∀ j, j < cap * 2 → (w.cell? ⟨g, j, none⟩).isSome = true := fun j hj => by
    rw [row_cell hg, Array.getElem?_eq_getElem (by omega)]; rfl
  have hfz : ∀ j, w.frozen? ⟨g, j, none⟩ = false := fun j => row_froz hg j
  have hdrop : (prs L).drop 2 = prs L.tail := by
    have := prs_drop L 1
    rw [List.drop_one] at this
    exact this
  obtain ⟨A, hA, hsrc⟩ : ∃ A : Addr, (if cap = 1 then some (⟨g, 0, none⟩ : Addr) else some ⟨g, 2, none⟩) = some A ∧ Hid (∀ t u, (prs L.tail)[t]? = some u → w.drew.cell? (A.add t) = some u) := by
    by_cases h : cap = 1
    · refine ⟨⟨g, 0, none⟩, by simp [h], fun t u hu => ?_⟩
      have h0 : L.tail = [] := List.eq_nil_of_length_eq_zero (by omega)
      rw [h0, prs_nil] at hu; simp at hu
    · refine ⟨⟨g, 2, none⟩, by simp [h], fun t u hu => ?_⟩
      rw [Addr.add_lit]
      rw [← hdrop, List.getElem?_drop] at hu
      exact row_at (w := w) hg hc hcs htk _ _ hu
  have s1 : Hid ((prs L.tail).length = m * 2) := hpt
  have s2 : Hid (∀ u ∈ prs L.tail, u.oneCell' = true) := hones.tail.cells
  have s3 : Hid (∀ t, t < (prs L.tail).length → (w.drew.cell? ⟨g, 0 + 0 * 2 + t, none⟩).isSome = true ∧ w.drew.frozen? ⟨g, 0 + 0 * 2 + t, none⟩ = false) := fun t ht =>
    ⟨hcell _ (by rw [hpt] at ht; omega), hfz _⟩
  obtain ⟨W1, hW1⟩ : ∃ W1, w.drew.setCells g (0 + 0 * 2) (prs L.tail) = W1 := ⟨_, rfl⟩
  have hW : Hid (w.drew.setCells g (0 + 0 * 2) (prs L.tail) = W1) := hW1
  have hcl : ∀ ty c, (Builtin.clear_ #[88] ty #[.slice (some ⟨g, m * 2, none⟩) 1 c]).run Try.prog W1 = .ok (.tuple #[]) (W1.setCells g (m * 2) (Value.agg #[.int .i64 0, .int .i64 0]).cells.toList) := fun ty c =>
    run_clear_one W1 _ _ ty _ Try.underlying88 zeroJ g (m * 2) c
      (fun j hj => by
        have hj' : j < 2 := hj
        rw [← hW1]; exact isSome_setCells g (prs L.tail) (0 + 0 * 2) w.drew (fun t ht => hcell (0 + 0 * 2 + t) (by rw [hpt] at ht; omega)) (m * 2 + j) (hcell (m * 2 + j) (by omega)))
      (fun j hj => by rw [← hW1, World.frozen?_setCells]; exact hfz _)
      (fun u hu => by
        have hu' : u ∈ [Value.int .i64 0, .int .i64 0] := hu
        simp only [List.mem_cons, List.not_mem_nil, or_false] at hu'
        rcases hu' with rfl | rfl <;> rfl)
  obtain ⟨W2, hW2⟩ : ∃ W2, W1.setCells g (m * 2) (Value.agg #[.int .i64 0, .int .i64 0]).cells.toList = W2 := ⟨_, rfl⟩
  rw [hW2] at hcl
  have FIN : Hid (OwnP 92 W2 B (.slice (some ⟨g, 0, none⟩) m cap) L.tail ∧ w.grownBy W2 (some g)) := by
    refine ⟨?_, ?_⟩
    · have := tail_row (w := w.drew) hL hg hBg hm hcs hc W2 W1 hW1.symm W1 rfl (Value.agg #[.int .i64 0, .int .i64 0]).cells.toList rfl (by rw [show L.length - 1 = m by omega]; exact hW2.symm)
      rw [show L.length - 1 = m by omega] at this
      exact this
    · rw [← hW2, ← hW1]; exact grown_trans ((grown_drew (grown_refl w _))) (grown_trans (grown_setCells g _ _ _) (grown_setCells g _ _ _))
  have hmc : m + 1 ≤ cap := by omega
  have hm1 : m ≤ 999 := by omega
  have hb1 : ¬ (cap = 0) := by omega
  have hb2 : ¬ (cap = m) := by omega
  have hb3 : (1 : Int) ≤ (m : Int) + 1 := by omega
  have hb4 : 1 ≤ cap := by omega
  have hb5 : m ≤ cap := by omega
  clear hW1 hW2 hpt hcell hfz hdrop hg htk hcs hones hi0 hz0 hzs hzb hown hc hl htl hn
  go_enter Try.func51, Try.ntmps51
  obtain ⟨i0, hi0, hz0, hzs, hzb⟩ := info_parts infoJ
  have H0 : Hid (Try.prog.info? 92 = some i0) := hi0
  have H1 : Hid (i0.size = 2) := hzs
  clear hi0 hz0 hzs hzb
  go_wp2_with fail
  go_region_law (refine step_append_room rfl (.tmp 22) (.tmp 25) 88 rfl 92 i0 2 Try.underlying88 H0.out H1.out g 0 0 cap (by simp [Act.eval, Act.put]) A m (cap - 1) (prs L.tail) (by simp [Act.eval, Act.put]) s1.out hsrc.out s2.out (by omega) s3.out ?_; rw [hW.out])
  go_wp2_with fail
  go_ret
  exact ⟨rfl, FIN.out⟩
end Go.Proofs.Ytfpngbeomgfmfaa
