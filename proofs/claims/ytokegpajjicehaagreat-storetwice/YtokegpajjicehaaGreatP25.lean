/-
  Texts Dl4, Dl5, Dl6 in one.
-/
import Derived.Maps.RangeWalk
import Derived.Test.YtokegpajjicehaaGreatP24
namespace Go.Proofs.YtokegpajjicehaaGreat
open Go.RowKit
set_option linter.unusedVariables false

def RV (v : Value) : Option (DataW Value × List MemPlace) := some (.held v, [])
theorem law_int : Go.Maps.Keyed Tryz.prog 3 := Go.Maps.int_keyed Tryz.underlying3
theorem zeroEnt (w : World) : (zeroValue 40).run Tryz.prog w = .ok (entV noEnt) w := by kernel_rfl
def getE (o : Option En) : En := match o with
  | some e => e
  | none => noEnt
/-- A map's datum tells these entities, each by its Id. -/
structure Tells (D : DataW Value) (M : List En) : Prop where
  isMap : Go.Maps.IsMap D
  size : Go.Maps.size D = M.length
  has : ∀ x : Int, S64 x → Go.Maps.has D (.int .i64 x) = isO (findE x M)
  at_ : ∀ x : Int, S64 x → ∀ z, D.atKey (.int .i64 x) z = match findE x M with
    | some e => .held (entV e)
    | none => z
theorem wfS {x : Int} (h : S64 x) : (Lit.int .i64 x).wf = true := Go.WalkArith.wf_i64 h
theorem Tells.nil : Tells (.map []) [] := ⟨⟨_, rfl⟩, rfl, fun _ _ => rfl, fun _ _ _ => rfl⟩
theorem keyLit {x : Int} (h : S64 x) : Go.WideAt.IsKeyLit (.int .i64 x) := law_int.key (Go.Maps.keyOf_int_mk Tryz.underlying3 (wfS h))
theorem rise_S64 {M : List En} (h : rise (-1) M) : ∀ e ∈ M, S64 e.i := fun e he => by have := rise_lt h e he; unfold S64; omega
theorem Tells.put {D : DataW Value} {M : List En} (h : Tells D M) (ht : Go.Maps.Tidy D) (hr : rise (-1) M) {e : En} (he : S64 e.i) : Tells (D.put (.int .i64 e.i) (.held (entV e))) (ins e M) := by
  refine ⟨h.isMap.put _ _, ?_, fun x hx => ?_, fun x hx z => ?_⟩
  · rw [Go.Maps.size_put ht, len_ins hr, h.has _ he, h.size]
  · rw [find_ins]
    by_cases hxe : x = e.i
    · subst hxe
      rw [Go.Maps.has_put_same h.isMap (keyLit hx), if_pos rfl]; rfl
    · rw [Go.Maps.has_put_other (by intro q; injection q with _ q; exact hxe q), if_neg hxe, h.has x hx]
  · rw [find_ins]
    by_cases hxe : x = e.i
    · subst hxe
      rw [Go.Maps.atKey_put_same h.isMap (keyLit hx), if_pos rfl]
    · rw [Go.Maps.atKey_put_other (by intro q; injection q with _ q; exact hxe q), if_neg hxe, h.at_ x hx]
theorem Tells.del {D : DataW Value} {M : List En} (h : Tells D M) (ht : Go.Maps.Tidy D) (hr : rise (-1) M) {k : Int} (hk : S64 k) : Tells (D.del (.int .i64 k)) (del k M) := by
  refine ⟨h.isMap.del _, ?_, fun x hx => ?_, fun x hx z => ?_⟩
  · have h1 := Go.Maps.size_del ht (k := .int .i64 k)
    have h2 := len_del k M
    rw [h.has k hk, h.size] at h1
    omega
  · rw [find_del k x hr]
    by_cases hxe : x = k
    · subst hxe; rw [Go.Maps.has_del_same, if_pos rfl]; rfl
    · rw [Go.Maps.has_del_other (by intro q; injection q with _ q; exact hxe q), if_neg hxe, h.has x hx]
  · rw [find_del k x hr]
    by_cases hxe : x = k
    · subst hxe; rw [Go.Maps.atKey_del_same, if_pos rfl]
    · rw [Go.Maps.atKey_del_other (by intro q; injection q with _ q; exact hxe q), if_neg hxe, h.at_ x hx]
/-- Block b is a map of these entities. -/
def MapE (w : World) (b : Nat) (M : List En) : Prop := ∃ D, w.ownsMap Tryz.prog 3 RV b M.length D ∧ rise (-1) M ∧ Tells D M
theorem own_min {w : World} {b n : Nat} {D : DataW Value} (h : w.ownsMap Tryz.prog 3 RV b n D) : w.ownsMap Tryz.prog 3 RV b (Go.Maps.size D) D := by
  obtain ⟨es, clock, hb, F, hs, rfl⟩ := h
  exact ⟨es, clock, hb, F, by simp [Go.Maps.size, length_sorted], rfl⟩
theorem MapE.asc_ {w : World} {b : Nat} {M : List En} (h : MapE w b M) : rise (-1) M := by obtain ⟨_, _, h, _⟩ := h; exact h
theorem MapE.lt {w : World} {b : Nat} {M : List En} (h : MapE w b M) : b < w.heap.size := by obtain ⟨_, h, _⟩ := h; exact h.lt
theorem MapE.made (w : World) : MapE (w.alloc (.map #[] 0)) w.heap.size [] := ⟨_, World.ownsMap_made w _ _ _, trivial, Tells.nil⟩
theorem MapE.kept {w w' : World} {row : Option Nat} {b : Nat} {M : List En} (h : MapE w b M) (hg : w.grownBy w' row) (hne : some b ≠ row) : MapE w' b M := by
  obtain ⟨D, h1, h2⟩ := h
  exact ⟨D, h1.kept hg hne, h2⟩
theorem below_by {w w' : World} (h : Below w.heap.size w w') : w.grownBy w' none := ⟨h.os, h.tape, h.output, h.size, fun k hk _ => h.block k hk⟩
theorem MapE.below {w w' : World} {b : Nat} {M : List En} (h : MapE w b M) (hb : Below w.heap.size w w') : MapE w' b M := h.kept (below_by hb) (by simp)
theorem MapE.alloc {w : World} {b : Nat} {M : List En} (h : MapE w b M) (o : Obj) : MapE (w.alloc o) b M := h.kept (World.grownBy_alloc w o none) (by simp)
theorem MapE.drew {w : World} {b : Nat} {M : List En} (h : MapE w b M) : MapE w.drew b M := h
theorem MapE.drewN {w : World} {b : Nat} {M : List En} (h : MapE w b M) (n : Nat) : MapE (w.drewN n) b M := h
theorem MapE.setCell {w : World} {b : Nat} {M : List En} (h : MapE w b M) {a : Addr} (ha : b ≠ a.block) (u : Value) : MapE (w.setCell a u) b M := by
  obtain ⟨D, h1, h2⟩ := h
  exact ⟨D, h1.setCell ha u, h2⟩
theorem Blk.by_ {w w' : World} {row : Option Nat} {b : Nat} {cs : List Value} (h : Blk w b cs) (hg : w.grownBy w' row) (hne : some b ≠ row) : Blk w' b cs := by
  have e := hg.block b h.lt hne
  exact ⟨Nat.lt_of_lt_of_le h.lt hg.size, fun o ho => (World.cell?_of_block (w := w) (a := ⟨b, o, none⟩) e).trans (h.all o ho), fun o => (World.frozen?_of_block (w := w) (a := ⟨b, o, none⟩) e).trans (h.froz o)⟩
theorem len_max {M : List En} (h : rise (-1) M) : M.length ≤ 65536 := by
  have key : ∀ (L : List En) (a : Int), rise a L → a ≤ 65535 → (L.length : Int) ≤ 65535 - a := by
    intro L
    induction L with
    | nil => intro a _ h; simp; omega
    | cons e L ih => intro a h1 h2; have := ih e.i h1.2.2 h1.2.1; have := h1.1; rw [List.length_cons]; omega
  have := key M (-1) h (by omega)
  omega

section
variable {w : World} {ops : Array Oper} {rest : List Oper} {o : Oper} {a : Act} {Q : Exit → Act → World → Prop}
/-- 'v, ok := m[k]'. -/
theorem lookE_wp (hg : o.guard = none) (m x : Operand) (hop : o.op = Op.lookup 107 m x true) (b : Nat) (M : List En) (hm : a.eval m = .map (some b)) (h : MapE w b M) (k : Int) (hx : a.eval x = .int .i64 k) (hk : S64 k)
    (hK : wpList Tryz.prog ops Q rest (a.put o.dst (.tuple #[entV (getE (findE k M)), .bool (isO (findE k M))])) w) : wpList Tryz.prog ops Q (o :: rest) a w := by
  obtain ⟨D, h1, h2, h3⟩ := h
  refine wpList_lookup_own_ok _ hg m x 107 hop 3 40 law_int Tryz.underlying107 RV (zeroEnt w) (.held (entV noEnt)) [] rfl b M.length D hm h1 _ (.int .i64 k) hx (Go.Maps.keyOf_int_mk Tryz.underlying3 (wfS hk)) ?_
  intro v ps hv
  rw [h3.at_ k hk] at hv
  rw [h3.has k hk]
  have e : v = entV (getE (findE k M)) := by
    cases hf : findE k M with
    | none => rw [hf] at hv; simp [RV] at hv; exact hv.1
    | some e => rw [hf] at hv; simp [RV] at hv; exact hv.1
  rw [e]
  exact hK
/-- 'm[k] = v'. -/
theorem storeE_wp (hg : o.guard = none) (m x v : Operand) (hop : o.op = Op.mapUpdate 107 m x v) (b : Nat) (M : List En) (hm : a.eval m = .map (some b)) (h : MapE w b M) (e : En) (hx : a.eval x = .int .i64 e.i) (hv : a.eval v = entV e) (he0 : 0 ≤ e.i) (he1 : e.i ≤ 65535)
    (hK : ∀ w', MapE w' b (ins e M) → w.grownBy w' (some b) → wpList Tryz.prog ops Q rest (a.put o.dst undef) w') : wpList Tryz.prog ops Q (o :: rest) a w := by
  obtain ⟨D, h1, h2, h3⟩ := h
  have hS : S64 e.i := by unfold S64; omega
  have hl := len_max h2
  refine wpList_mapUpdate_own _ hg m x v 107 hop 3 40 law_int Tryz.underlying107 RV b M.length D hm h1 (by unfold maxLen; omega) _ _ (.int .i64 e.i) hx hv (Go.Maps.keyOf_int_mk Tryz.underlying3 (wfS hS)) (.held (entV e)) [] rfl ?_
  intro w' h1' hg'
  have ht := h1.tidy law_int
  have hT := h3.put ht h2 hS
  refine hK w' ⟨_, ?_, rise_ins he1 h2 (by omega), hT⟩ hg'
  have := own_min h1'
  rw [hT.size] at this
  exact this
/-- 'delete(m, k)'. -/
theorem delE_wp (hg : o.guard = none) (m x : Operand) (hop : o.op = Op.call { callee := Callee.builtin Builtin.delete, args := #[m, x], argTypes := #[107, 3] }) (b : Nat) (M : List En) (hm : a.eval m = .map (some b)) (h : MapE w b M) (k : Int) (hx : a.eval x = .int .i64 k) (hk : S64 k)
    (hK : ∀ w', MapE w' b (del k M) → w.grownBy w' (some b) → wpList Tryz.prog ops Q rest (a.put o.dst (.tuple #[])) w') : wpList Tryz.prog ops Q (o :: rest) a w := by
  obtain ⟨D, h1, h2, h3⟩ := h
  refine wpList_delete_own _ hg m x 107 3 hop 40 law_int Tryz.underlying107 RV b M.length D hm h1 _ (.int .i64 k) hx (Go.Maps.keyOf_int_mk Tryz.underlying3 (wfS hk)) ?_
  intro w' h1' hg'
  have hT := h3.del (h1.tidy law_int) h2 hk
  refine hK w' ⟨_, ?_, rise_del k h2, hT⟩ hg'.grown
  have := own_min h1'
  rw [hT.size] at this
  exact this
/-- 'len(m)'. -/
theorem lenE_wp (hg : o.guard = none) (m : Operand) (hop : o.op = Op.call { callee := Callee.builtin Builtin.len, args := #[m], argTypes := #[107] }) (b : Nat) (M : List En) (hm : a.eval m = .map (some b)) (h : MapE w b M)
    (hK : wpList Tryz.prog ops Q rest (a.put o.dst (.int .i64 (M.length : Nat))) w) : wpList Tryz.prog ops Q (o :: rest) a w := by
  obtain ⟨D, h1, h2, h3⟩ := h
  refine wpList_len_own _ hg m 107 hop 3 40 Tryz.underlying107 RV b M.length D hm h1 ?_
  rw [h3.size]
  exact hK
end

/-! a loop over the map -/
/-- Under way: these have come; so many are still to come. -/
def RunE (w : World) (b r : Nat) (M got : List En) (cnt : Nat) : Prop :=
  ∃ D left, w.ranges Tryz.prog 3 RV b r M.length D left cnt ∧ rise (-1) M ∧ Tells D M ∧ got.Nodup ∧ ∀ e, e ∈ got ↔ (e ∈ M ∧ left (.int .i64 e.i) = false)
theorem RunE.map {w : World} {b r : Nat} {M got : List En} {cnt : Nat} (h : RunE w b r M got cnt) : MapE w b M := by
  obtain ⟨D, left, h1, h2, h3, _⟩ := h
  exact ⟨D, h1.owns, h2, h3⟩
theorem RunE.left_eq {w : World} {b r : Nat} {M got : List En} {cnt : Nat} (h : RunE w b r M got cnt) : w.rangeLeft b r = cnt := by
  obtain ⟨D, left, h1, _⟩ := h
  exact h1.left_eq
theorem RunE.lt {w : World} {b r : Nat} {M got : List En} {cnt : Nat} (h : RunE w b r M got cnt) : r < w.heap.size := by
  obtain ⟨D, left, h1, _⟩ := h
  exact h1.lt
theorem RunE.kept {w w' : World} {row : Option Nat} {b r : Nat} {M got : List En} {cnt : Nat} (h : RunE w b r M got cnt) (hg : w.grownBy w' row) (hb : some b ≠ row) (hr : some r ≠ row) : RunE w' b r M got cnt := by
  obtain ⟨D, left, h1, h2⟩ := h
  exact ⟨D, left, h1.kept hg hb hr, h2⟩
theorem mapE_start {w' : World} {b r : Nat} {M : List En} {D : DataW Value} (h2 : rise (-1) M) (h3 : Tells D M) (hr : w'.ranges Tryz.prog 3 RV b r M.length D (Go.Maps.has D) (Go.Maps.size D)) : RunE w' b r M [] M.length := by
  refine ⟨D, _, by rw [← h3.size]; rw [← h3.size] at hr; exact hr, h2, h3, List.nodup_nil, fun e => ⟨fun h => (by cases h), fun h => ?_⟩⟩
  have := h.2
  rw [h3.has _ (rise_S64 h2 e h.1), find_mem h2 e h.1] at this
  cases this
theorem RunE.step {w w' : World} {b r : Nat} {M got : List En} {cnt cnt' : Nat} {D : DataW Value} {left : Lit → Bool} (h2 : rise (-1) M) (h3 : Tells D M) (h4 : got.Nodup) (h5 : ∀ e, e ∈ got ↔ (e ∈ M ∧ left (.int .i64 e.i) = false))
    {x : Int} (hx : S64 x) {v : Value} {y : DataW Value × List MemPlace} (hl : left (.int .i64 x) = true) (hv : RV v = some y) (hat : ∀ zd, D.atKey (.int .i64 x) zd = y.1) (hr : w'.ranges Tryz.prog 3 RV b r M.length D (fun z => left z && !z.sameKey (.int .i64 x)) cnt') :
    ∃ e, e ∈ M ∧ x = e.i ∧ v = entV e ∧ RunE w' b r M (got ++ [e]) cnt' := by
  have hh := Go.Maps.has_true_of_atKey hat
  rw [h3.has x hx] at hh
  cases hf : findE x M with
  | none => rw [hf] at hh; cases hh
  | some e =>
    obtain ⟨e1, e2⟩ := find_i hf
    have hv' := hat (.held (entV noEnt))
    rw [h3.at_ x hx, hf] at hv'
    have hvy : y = (.held v, []) := by simp [RV] at hv; exact hv.symm
    rw [hvy] at hv'
    simp at hv'
    refine ⟨e, e2, e1.symm, hv'.symm, D, _, hr, h2, h3, ?_, fun e' => ?_⟩
    · refine List.nodup_append.2 ⟨h4, by simp, fun p hp q hq => ?_⟩
      simp at hq
      subst hq
      intro he
      subst he
      have := ((h5 p).1 hp).2
      rw [e1, hl] at this
      cases this
    · rw [List.mem_append, h5 e']
      by_cases he : e' = e
      · subst he
        rw [e1]
        refine ⟨fun _ => ⟨e2, ?_⟩, fun _ => Or.inr (by simp)⟩
        rw [Go.WideAt.sameKey_self (keyLit hx)]; simp
      · constructor
        · rintro (⟨p, q⟩ | p)
          · exact ⟨p, by rw [q]; rfl⟩
          · simp at p; exact absurd p he
        · rintro ⟨p, q⟩
          refine Or.inl ⟨p, ?_⟩
          have hne : e'.i ≠ x := fun q' => he (rise_inj h2 e' p e e2 (by omega))
          rw [Go.Maps.sameKey_ne (by intro q'; injection q' with _ q'; exact hne q')] at q
          simpa using q
theorem RunE.done {w : World} {b r : Nat} {M got : List En} {cnt : Nat} {D : DataW Value} {left : Lit → Bool} (h2 : rise (-1) M) (h4 : got.Nodup) (h5 : ∀ e, e ∈ got ↔ (e ∈ M ∧ left (.int .i64 e.i) = false)) (hl : ∀ kl, left kl = false) : got.Perm M := by
  refine (List.perm_ext_iff_of_nodup h4 ?_).2 fun e => ?_
  · exact (rise_pair h2).imp (fun {p q} h he => by subst he; omega)
  · rw [h5 e, hl]; simp
section
variable {w : World} {ops : Array Oper} {rest : List Oper} {o : Oper} {a : Act} {Q : Exit → Act → World → Prop}
theorem rangeE_wp (hg : o.guard = none) (m : Operand) (hop : o.op = Op.range 107 m) (b : Nat) (M : List En) (hm : a.eval m = .map (some b)) (h : MapE w b M)
    (hK : ∀ w', RunE w' b w.heap.size M [] M.length → w.grownBy w' none → w'.heap.size = w.heap.size + 1 → wpList Tryz.prog ops Q rest (a.put o.dst (.pointer (some ⟨w.heap.size, 0, none⟩))) w') : wpList Tryz.prog ops Q (o :: rest) a w := by
  obtain ⟨D, h1, h2, h3⟩ := h
  refine wpList_range_own _ hg m 107 hop 3 40 law_int Tryz.underlying107 RV b M.length D hm h1 ?_
  intro w' hr hg' hs
  exact hK w' (mapE_start h2 h3 hr) hg' hs
theorem nextE_wp (hg : o.guard = none) (it : Operand) (hop : o.op = Op.next it false) (b r : Nat) (M got : List En) (cnt : Nat) (hit : a.eval it = .pointer (some ⟨r, 0, none⟩)) (h : RunE w b r M got cnt)
    (hDone : got.Perm M → wpList Tryz.prog ops Q rest (a.put o.dst (.tuple #[.bool false])) w)
    (hMore : ∀ (e : En) (w' : World) (cnt' : Nat), e ∈ M → RunE w' b r M (got ++ [e]) cnt' → cnt' < cnt → w.grownBy w' (some r) → w'.heap.size = w.heap.size →
      (Instr.entry (.pointer (some ⟨r, 0, none⟩))).run Tryz.prog w' = .ok (.tuple #[.int .i64 e.i, entV e]) w' → wpList Tryz.prog ops Q rest (a.put o.dst (.tuple #[.bool true, .int .i64 e.i, entV e])) w') : wpList Tryz.prog ops Q (o :: rest) a w := by
  obtain ⟨D, left, h1, h2, h3, h4, h5⟩ := h
  refine wpList_next_ranges _ hg it hop 3 law_int RV (Value.int .i64) id (fun key kl hkey => by obtain ⟨x, rfl, _⟩ := Maps.keyOf_int_inv Tryz.underlying3 hkey; exact ⟨x, rfl⟩) (fun v y hv => ⟨v, rfl⟩) b r M.length D left cnt hit h1 (fun hc hl => hDone (RunE.done (w := w) (b := b) (r := r) (cnt := cnt) (D := D) h2 h4 h5 hl)) ?_
  intro x v kl y w' cnt' hkey hl hv hat hr hlt hg' hs hen
  obtain ⟨x', ex, rfl, hwx⟩ := Maps.keyOf_int_inv Tryz.underlying3 hkey
  cases ex
  obtain ⟨e, he, rfl, ev, hR⟩ := RunE.step (cnt := cnt) (w := w) h2 h3 h4 h5 (wf_i64 hwx) hl hv hat hr
  have ev' : v = entV e := ev
  subst ev'
  exact hMore e w' cnt' he hR hlt hg' hs hen
end
end Go.Proofs.YtokegpajjicehaaGreat

namespace Go.Proofs.YtokegpajjicehaaGreat
open Go.RowKit
set_option linter.unusedVariables false
set_option maxRecDepth 8000

@[reducible] def snV (t m : Int) (v : Value) : Value := .agg #[.int .i64 t, .int .i64 m, v]
def preE (A : Nat → En) (k : Nat) : List En := (List.range k).map A
theorem preE_zero (A : Nat → En) : preE A 0 = [] := rfl
theorem preE_succ (A : Nat → En) (k : Nat) : preE A (k + 1) = preE A k ++ [A k] := by unfold preE; rw [List.range_succ, List.map_append]; rfl
theorem preE_len (A : Nat → En) (k : Nat) : (preE A k).length = k := by unfold preE; simp
theorem preE_split (A : Nat → En) {k n : Nat} (h : k < n) : ∃ rs, preE A n = preE A k ++ A k :: rs := by
  obtain ⟨d, rfl⟩ : ∃ d, n = k + 1 + d := ⟨n - (k + 1), by omega⟩
  induction d with
  | zero => exact ⟨[], preE_succ A k⟩
  | succ d ih =>
    obtain ⟨rs, e⟩ := ih (by omega)
    exact ⟨rs ++ [A (k + 1 + d)], by rw [show k + 1 + (d + 1) = k + 1 + d + 1 by omega, preE_succ, e]; simp⟩
def lastE : Int → List En → Int
  | last, [] => last
  | _, e :: L => lastE e.i L
theorem lastE_snoc : ∀ (L : List En) (a : Int) (e : En), lastE a (L ++ [e]) = e.i
  | [], _, _ => rfl
  | x :: L, _, e => lastE_snoc L x.i e
theorem rise_snoc : ∀ {L : List En} {a : Int} {e : En}, rise a L → lastE a L < e.i → e.i ≤ 65535 → rise a (L ++ [e])
  | [], _, _, _, h1, h2 => ⟨h1, h2, trivial⟩
  | x :: L, _, e, h, h1, h2 => ⟨h.1, h.2.1, rise_snoc h.2.2 h1 h2⟩
theorem ids_three : ∀ {L : List En} {a : Int} {e : En} {R : List En}, -1 ≤ a → rise a L → (e.i < 0 ∨ 65535 < e.i) → idsE a (L ++ e :: R) = 3
  | [], a, e, R, _, _, h => by show (if e.i < 0 ∨ 65535 < e.i then _ else _) = _; rw [if_pos h]
  | x :: L, a, e, R, ha, hr, h => by
    have h1 := hr.1
    have h2 := hr.2.1
    show (if x.i < 0 ∨ 65535 < x.i then _ else if x.i ≤ a then _ else _) = _
    rw [if_neg (by omega), if_neg (by omega)]
    exact ids_three (by omega) hr.2.2 h
theorem ids_ten : ∀ {L : List En} {a : Int} {e : En} {R : List En}, -1 ≤ a → rise a L → ¬ (e.i < 0 ∨ 65535 < e.i) → e.i ≤ lastE a L → idsE a (L ++ e :: R) = 10
  | [], a, e, R, _, _, h, h3 => by show (if e.i < 0 ∨ 65535 < e.i then _ else if e.i ≤ a then _ else _) = _; rw [if_neg h, if_pos (show e.i ≤ a from h3)]
  | x :: L, a, e, R, ha, hr, h, h3 => by
    have h1 := hr.1
    have h2 := hr.2.1
    show (if x.i < 0 ∨ 65535 < x.i then _ else if x.i ≤ a then _ else _) = _
    rw [if_neg (by omega), if_neg (by omega)]
    exact ids_ten (by omega) hr.2.2 h h3
theorem lastE_bd : ∀ {L : List En} {a : Int}, -1 ≤ a → a ≤ 65535 → rise a L → -1 ≤ lastE a L ∧ lastE a L ≤ 65535
  | [], _, h0, h1, _ => ⟨h0, h1⟩
  | x :: L, a, h0, h1, h => lastE_bd (a := x.i) (by have := h.1; omega) h.2.1 h.2.2
/-- What Check says of the entities, one by one. -/
theorem ids_steps (A : Nat → En) (n : Nat) (E : Int) (hE : idsE (-1) (preE A n) = E) :
    (∀ k, k < n → rise (-1) (preE A k) → ((A k).i < 0 ∨ 65535 < (A k).i) → E = 3) ∧
    (∀ k, k < n → rise (-1) (preE A k) → ¬ ((A k).i < 0 ∨ 65535 < (A k).i) → (A k).i ≤ lastE (-1) (preE A k) → E = 10) ∧
    (∀ k, k < n → rise (-1) (preE A k) → ¬ ((A k).i < 0 ∨ 65535 < (A k).i) → ¬ (A k).i ≤ lastE (-1) (preE A k) → rise (-1) (preE A (k + 1)) ∧ lastE (-1) (preE A (k + 1)) = (A k).i) ∧
    (rise (-1) (preE A n) → E = 0) := by
  refine ⟨fun k hk hr h => ?_, fun k hk hr h h2 => ?_, fun k hk hr h h2 => ?_, fun hr => ?_⟩
  · obtain ⟨R, e⟩ := preE_split A hk
    rw [← hE, e]; exact ids_three (by omega) hr h
  · obtain ⟨R, e⟩ := preE_split A hk
    rw [← hE, e]; exact ids_ten (by omega) hr h h2
  · rw [preE_succ]
    exact ⟨rise_snoc hr (by omega) (by omega), lastE_snoc _ _ _⟩
  · rw [← hE]; exact (ids_rise _ (-1) (by omega)).2 hr
theorem rdE_at {w : World} {ao : Option Addr} {n cap : Nat} {A : Nat → En} (h : RdE w (.slice ao n cap) n A) {k : Nat} (hk : k < n) : ∃ b o, ao = some ⟨b, o, none⟩ ∧ b < w.heap.size ∧ ∀ j x, (entC (A k))[j]? = some x → w.cell? ⟨b, o + k * 9 + j, none⟩ = some x := by
  obtain ⟨ao', cap', e, _, _, h3⟩ := h
  injection e with e1 e2 e3
  subst e1 e3
  obtain ⟨b', o, rfl, hcell⟩ := h3.resolve_left (by omega)
  exact ⟨b', o, rfl, World.block_lt_of_cell? w _ (hcell k hk 0 _ rfl), hcell k hk⟩
theorem RdE.drewN {w : World} {v : Value} {n : Nat} {A : Nat → En} (h : RdE w v n A) (N : Nat) : RdE (w.drewN N) v n A := h
set_option maxHeartbeats 1000000 in
theorem sn_check (w : World) (t m : Int) (v : Value) (n : Nat) (A : Nat → En) (hv : RdE w v n A) :
    Calls Tryz.prog 17 #[snV t m v] w fun e w' => e = .returned (.int .i64 (snE t m (preE A n))) ∧ Below w.heap.size w w' := by
  have HR : Hid (RdE w v n A) := hv
  obtain ⟨E, hE⟩ : ∃ E, snE t m (preE A n) = E := ⟨_, rfl⟩
  have HT : Hid (t < 0 ∨ 4294967295 < t ∨ m < -2305843009213693952 ∨ 2305843009213693952 < m → E = 3) := fun h => by
    rw [← hE]; unfold snE; rw [if_pos]
    rcases h with h | h | h | h
    · exact Or.inl h
    · exact Or.inr (Or.inl h)
    · refine Or.inr (Or.inr ?_); unfold timB; simp; omega
    · refine Or.inr (Or.inr ?_); unfold timB; simp; omega
  have HN : ¬ (t < 0 ∨ 4294967295 < t ∨ m < -2305843009213693952 ∨ 2305843009213693952 < m) → E = if 64 < n then 4 else idsE (-1) (preE A n) := fun h => by
    rw [← hE]; unfold snE; rw [if_neg, preE_len]
    intro h'
    rcases h' with h' | h' | h'
    · omega
    · omega
    · unfold timB at h'; simp at h'; omega
  rw [hE]
  clear hE
  obtain ⟨ao, cap, rfl, hc, hm, _⟩ := hv
  have B0 : ∀ c T, Below w.heap.size w (w.alloc (.cells c T)) := fun c T => (Below.refl _ _).alloc (Nat.le_refl _) _
  by_cases h1 : t < 0
  · have e := HT.out (Or.inl h1)
    subst e
    clear HT HN HR
    go_enter Tryz.func17, Tryz.ntmps17
    go_wp2_with fail
    go_ret
    exact ⟨rfl, B0 _ _⟩
  by_cases h2 : 4294967295 < t
  · have e := HT.out (Or.inr (Or.inl h2))
    subst e
    clear HT HN HR
    go_enter Tryz.func17, Tryz.ntmps17
    go_wp2_with fail
    go_ret
    exact ⟨rfl, B0 _ _⟩
  by_cases h3 : m < -2305843009213693952
  · have e := HT.out (Or.inr (Or.inr (Or.inl h3)))
    subst e
    clear HT HN HR
    go_enter Tryz.func17, Tryz.ntmps17
    go_wp2_with fail
    go_ret
    exact ⟨rfl, B0 _ _⟩
  by_cases h4 : 2305843009213693952 < m
  · have e := HT.out (Or.inr (Or.inr (Or.inr h4)))
    subst e
    clear HT HN HR
    go_enter Tryz.func17, Tryz.ntmps17
    go_wp2_with fail
    go_ret
    exact ⟨rfl, B0 _ _⟩
  have e := HN (by omega)
  clear HT HN
  by_cases h5 : 64 < n
  · rw [if_pos h5] at e
    subst e
    clear HR
    go_enter Tryz.func17, Tryz.ntmps17
    go_wp2_with fail
    go_ret
    exact ⟨rfl, B0 _ _⟩
  rw [if_neg h5] at e
  obtain ⟨s1, s2, s3, s4⟩ := ids_steps A n E e.symm
  have S1 : Hid (∀ k, k < n → rise (-1) (preE A k) → ((A k).i < 0 ∨ 65535 < (A k).i) → E = 3) := s1
  have S2 : Hid (∀ k, k < n → rise (-1) (preE A k) → ¬ ((A k).i < 0 ∨ 65535 < (A k).i) → (A k).i ≤ lastE (-1) (preE A k) → E = 10) := s2
  have S3 : Hid (∀ k, k < n → rise (-1) (preE A k) → ¬ ((A k).i < 0 ∨ 65535 < (A k).i) → ¬ (A k).i ≤ lastE (-1) (preE A k) → rise (-1) (preE A (k + 1)) ∧ lastE (-1) (preE A (k + 1)) = (A k).i) := s3
  have S4 : Hid (rise (-1) (preE A n) → E = 0) := s4
  clear e s1 s2 s3 s4
  go_enter Tryz.func17, Tryz.ntmps17
  go_wp2_with fail
  generalize hW : w.alloc (.cells #[.int .i64 t, .int .i64 m, .slice ao n cap] 24) = W
  obtain ⟨A0, b0, _⟩ := boxed hW
  clear hW A0 B0
  have R0 : Hid (RdE W (.slice ao n cap) n A) := HR.out.below b0
  clear HR
  go_loopw [3, 33] (fun lv i wr => ∃ k : Nat, k ≤ n ∧ i = .int .i64 k ∧ rise (-1) (preE A k) ∧ lv = .int .i64 (lastE (-1) (preE A k)) ∧ RdE wr (.slice ao n cap) n A ∧ Below w.heap.size w wr) (fun _ i _ => n - (intOf i).toNat)
  case atStart => exact ⟨0, by omega, rfl, trivial, rfl, R0.out, b0⟩
  case round =>
    obtain ⟨k, hk, rfl, q1, rfl, q3, q4⟩ := hrel
    have Q3 : Hid (RdE wr (.slice ao n cap) n A) := q3
    have Q1 : Hid (rise (-1) (preE A k)) := q1
    have LB := lastE_bd (a := -1) (by omega) (by omega) q1
    by_cases hlt : k < n
    · obtain ⟨g1, o1, e1, l1, c1⟩ := rdE_at q3 hlt
      have T1 := S1.out k hlt q1
      have T2 := S2.out k hlt q1
      have T3 := S3.out k hlt q1
      obtain ⟨r, hr⟩ : ∃ r, A k = r := ⟨_, rfl⟩
      obtain ⟨ls, hls⟩ : ∃ x, lastE (-1) (preE A k) = x := ⟨_, rfl⟩
      rw [hr] at T1 T2 T3 c1
      rw [hls] at T2 T3 LB
      rw [hls]
      obtain ⟨lb0, lb1⟩ := LB
      have U1 : Hid (r.i < 0 ∨ 65535 < r.i → E = 3) := T1
      have U2 : Hid (¬ (r.i < 0 ∨ 65535 < r.i) → r.i ≤ ls → E = 10) := T2
      have U3 : Hid (¬ (r.i < 0 ∨ 65535 < r.i) → ¬ r.i ≤ ls → rise (-1) (preE A (k + 1)) ∧ lastE (-1) (preE A (k + 1)) = r.i) := fun h h' => T3 h (by omega)
      subst e1
      have x0 := c1 0 _ rfl
      have x1 := c1 1 _ rfl
      have x2 := c1 2 _ rfl
      have x3 := c1 3 _ rfl
      have x4 := c1 4 _ rfl
      have x5 := c1 5 _ rfl
      have x6 := c1 6 _ rfl
      have x7 := c1 7 _ rfl
      have x8 := c1 8 _ rfl
      simp only [Nat.add_zero] at x0
      clear c1 q1 q3 hls hr T1 T2 T3 S1 S2 S3 S4
      obtain ⟨r0, r1, r2, r3, r4, r5, r6, r7, r8⟩ := r
      simp only at U1 U2 U3
      by_cases g1 : r0 < 0
      · have e := U1.out (Or.inl g1)
        subst e
        clear U1 U2 U3
        go_wp2_with fail
        go_ret
        exact ⟨rfl, q4.alloc q4.size _⟩
      by_cases g2 : 65535 < r0
      · have e := U1.out (Or.inr g2)
        subst e
        clear U1 U2 U3
        go_wp2_with fail
        go_ret
        exact ⟨rfl, q4.alloc q4.size _⟩
      by_cases g3 : r0 ≤ ls
      · have e := U2.out (by omega) g3
        subst e
        clear U1 U2 U3
        go_wp2_with fail
        go_ret
        exact ⟨rfl, q4.alloc q4.size _⟩
      have E3 : Hid (rise (-1) (preE A (k + 1)) ∧ lastE (-1) (preE A (k + 1)) = r0) := U3.out (by omega) g3
      clear U1 U2 U3
      go_wp2_with fail
      go_roundw
      case rel => exact ⟨k + 1, by omega, by go_num, E3.out.1, by rw [E3.out.2], Q3.out.below ((Below.refl _ _).alloc (Nat.le_refl _) _), q4.alloc q4.size _⟩
      case measure => simp [intOf]; omega
    · obtain rfl : k = n := by omega
      have e := S4.out q1
      subst e
      clear S1 S2 S3 S4 q1 q3
      go_wp2_with fail
      go_ret
      exact ⟨rfl, q4⟩
end Go.Proofs.YtokegpajjicehaaGreat

namespace Go.Proofs.YtokegpajjicehaaGreat
open Go.RowKit
set_option linter.unusedVariables false
set_option maxRecDepth 8000

theorem find_steps (A : Nat → En) (n : Nat) (id : Int) :
    (∀ k, k < n → findE id (preE A k) = none → (A k).i = id → findE id (preE A n) = some (A k)) ∧
    (∀ k, k < n → findE id (preE A k) = none → (A k).i ≠ id → findE id (preE A (k + 1)) = none) := by
  have app : ∀ (L R : List En), findE id L = none → findE id (L ++ R) = findE id R := by
    intro L
    induction L with
    | nil => intro R _; rfl
    | cons x L ih =>
      intro R h
      have h' : (if x.i = id then some x else findE id L) = none := h
      show (if x.i = id then some x else findE id (L ++ R)) = _
      by_cases hx : x.i = id
      · rw [if_pos hx] at h'; cases h'
      · rw [if_neg hx] at h' ⊢; exact ih R h'
  refine ⟨fun k hk h hi => ?_, fun k hk h hi => ?_⟩
  · obtain ⟨R, e⟩ := preE_split A hk
    rw [e, app _ _ h]
    show (if (A k).i = id then _ else _) = _
    rw [if_pos hi]
  · rw [preE_succ, app _ _ h]
    show (if (A k).i = id then _ else _) = _
    rw [if_neg hi]; rfl
set_option maxHeartbeats 1000000 in
theorem sn_find (w : World) (t m id : Int) (v : Value) (n : Nat) (A : Nat → En) (hv : RdE w v n A) :
    Calls Tryz.prog 14 #[snV t m v, .int .i64 id] w fun e w' => e = .returned (.tuple #[entV (getE (findE id (preE A n))), .bool (isO (findE id (preE A n)))]) ∧ Below w.heap.size w w' := by
  have HR : Hid (RdE w v n A) := hv
  obtain ⟨f1, f2⟩ := find_steps A n id
  obtain ⟨O, hO⟩ : ∃ O, findE id (preE A n) = O := ⟨_, rfl⟩
  have F1 : Hid (∀ k, k < n → findE id (preE A k) = none → (A k).i = id → O = some (A k)) := fun k hk h hi => by rw [← hO]; exact f1 k hk h hi
  have F2 : Hid (∀ k, k < n → findE id (preE A k) = none → (A k).i ≠ id → findE id (preE A (k + 1)) = none) := f2
  have HO : Hid (findE id (preE A n) = O) := hO
  rw [hO]
  clear hO f1 f2
  obtain ⟨ao, cap, rfl, hc, hm, _⟩ := hv
  go_enter Tryz.func14, Tryz.ntmps14
  go_wp2_with fail
  generalize hW : (w.alloc (.cells #[.int .i64 t, .int .i64 m, .slice ao n cap] 24)).alloc (.cells #[.int .i64 0, .int .i64 0, .int .i64 0, .int .i64 0, .int .i64 0, .int .i64 0, .int .i64 0, .int .u16 0, .int .u8 0] 40) = W
  obtain ⟨A0, A1, b0⟩ := boxed2 hW
  have R0 : Hid (RdE W (.slice ao n cap) n A) := HR.out.below b0
  obtain ⟨H, hH⟩ : ∃ H, w.heap.size = H := ⟨_, rfl⟩
  have HH : Hid (w.heap.size = H) := hH
  rw [hH] at A0 A1 b0
  rw [hH]
  clear hW hH HR A0
  go_loopw [11] (fun i wr => ∃ k : Nat, k ≤ n ∧ i = .int .i64 k ∧ findE id (preE A k) = none ∧ RdE wr (.slice ao n cap) n A ∧ Blk wr (H + 1) [.int .i64 0, .int .i64 0, .int .i64 0, .int .i64 0, .int .i64 0, .int .i64 0, .int .i64 0, .int .u16 0, .int .u8 0] ∧ Below H w wr) (fun i _ => n - (intOf i).toNat)
  case atStart => exact ⟨0, by omega, rfl, rfl, R0.out, A1, b0⟩
  case round =>
    obtain ⟨k, hk, rfl, q1, q3, q5, q4⟩ := hrel
    have Q3 : Hid (RdE wr (.slice ao n cap) n A) := q3
    have Q1 : Hid (findE id (preE A k) = none) := q1
    have lb := q5.lt
    have s4 := q4.size
    rw [HH.out] at s4
    by_cases hlt : k < n
    · obtain ⟨g1, o1, e1, l1, c1⟩ := rdE_at q3 hlt
      have U1 : Hid ((A k).i = id → O = some (A k)) := F1.out k hlt q1
      have U2 : Hid ((A k).i ≠ id → findE id (preE A (k + 1)) = none) := F2.out k hlt q1
      obtain ⟨r, hr⟩ : ∃ r, A k = r := ⟨_, rfl⟩
      rw [hr] at U1 U2 c1
      subst e1
      have x0 := c1 0 _ rfl
      have x1 := c1 1 _ rfl
      have x2 := c1 2 _ rfl
      have x3 := c1 3 _ rfl
      have x4 := c1 4 _ rfl
      have x5 := c1 5 _ rfl
      have x6 := c1 6 _ rfl
      have x7 := c1 7 _ rfl
      have x8 := c1 8 _ rfl
      simp only [Nat.add_zero] at x0
      clear c1 q1 q3 hr F1 F2
      obtain ⟨r0, r1, r2, r3, r4, r5, r6, r7, r8⟩ := r
      simp only at U1 U2
      go_upto_region 4 with fail
      generalize hV : wr.alloc (.cells #[.int .i64 r0, .int .i64 r1, .int .i64 r2, .int .i64 r3, .int .i64 r4, .int .i64 r5, .int .i64 r6, .int .u16 r7, .int .u8 r8] 40) = V
      obtain ⟨C2, bn, _⟩ := boxed hV
      have D2 := q5.below bn lb
      have B2 := bup q4 (Nat.le_of_eq HH.out.symm) bn
      have V3 : Hid (RdE V (.slice (some ⟨g1, o1, none⟩) n cap) n A) := Q3.out.below bn
      obtain ⟨MT, hMT⟩ : ∃ M, wr.heap.size = M := ⟨_, rfl⟩
      rw [hMT] at C2
      rw [hMT]
      have lv := D2.lt
      have lc := C2.lt
      have y0 := C2.cell 0 _ rfl
      have y1 := C2.cell 1 _ rfl
      have y2 := C2.cell 2 _ rfl
      have y3 := C2.cell 3 _ rfl
      have y4 := C2.cell 4 _ rfl
      have y5 := C2.cell 5 _ rfl
      have y6 := C2.cell 6 _ rfl
      have y7 := C2.cell 7 _ rfl
      have y8 := C2.cell 8 _ rfl
      clear hV hMT x0 x1 x2 x3 x4 x5 x6 x7 x8 bn q4 q5 Q3 s4 lb l1 C2
      by_cases g1 : r0 = id
      · have e := U1.out g1
        subst e g1
        clear U1 U2
        have d0 := D2.cell 0 _ rfl
        have f0 := D2.froz 0
        have d1 := D2.cell 1 _ rfl
        have f1 := D2.froz 1
        have d2 := D2.cell 2 _ rfl
        have f2 := D2.froz 2
        have d3 := D2.cell 3 _ rfl
        have f3 := D2.froz 3
        have d4 := D2.cell 4 _ rfl
        have f4 := D2.froz 4
        have d5 := D2.cell 5 _ rfl
        have f5 := D2.froz 5
        have d6 := D2.cell 6 _ rfl
        have f6 := D2.froz 6
        have d7 := D2.cell 7 _ rfl
        have f7 := D2.froz 7
        have d8 := D2.cell 8 _ rfl
        have f8 := D2.froz 8
        go_wp2_with fail
        have RB := Blk.nine (x0 := .int .i64 r0) (x1 := .int .i64 r1) (x2 := .int .i64 r2) (x3 := .int .i64 r3) (x4 := .int .i64 r4) (x5 := .int .i64 r5) (x6 := .int .i64 r6) (x7 := .int .u16 r7) (x8 := .int .u8 r8) D2
        have LB := below_nine (x0 := .int .i64 r0) (x1 := .int .i64 r1) (x2 := .int .i64 r2) (x3 := .int .i64 r3) (x4 := .int .i64 r4) (x5 := .int .i64 r5) (x6 := .int .i64 r6) (x7 := .int .u16 r7) (x8 := .int .u8 r8) B2 (show H ≤ H + 1 by omega)
        generalize ((((((((V.setCell ⟨H + 1, 0, none⟩ (.int .i64 r0)).setCell ⟨H + 1, 1, none⟩ (.int .i64 r1)).setCell ⟨H + 1, 2, none⟩ (.int .i64 r2)).setCell ⟨H + 1, 3, none⟩ (.int .i64 r3)).setCell ⟨H + 1, 4, none⟩ (.int .i64 r4)).setCell ⟨H + 1, 5, none⟩ (.int .i64 r5)).setCell ⟨H + 1, 6, none⟩ (.int .i64 r6)).setCell ⟨H + 1, 7, none⟩ (.int .u16 r7)).setCell ⟨H + 1, 8, none⟩ (.int .u8 r8) = W9 at RB LB ⊢
        have e0 := RB.cell 0 _ rfl
        have e1 := RB.cell 1 _ rfl
        have e2 := RB.cell 2 _ rfl
        have e3 := RB.cell 3 _ rfl
        have e4 := RB.cell 4 _ rfl
        have e5 := RB.cell 5 _ rfl
        have e6 := RB.cell 6 _ rfl
        have e7 := RB.cell 7 _ rfl
        have e8 := RB.cell 8 _ rfl
        refine bodyPost_ret (v := .tuple #[entV ⟨r0, r1, r2, r3, r4, r5, r6, r7, r8⟩, .bool true]) (by simp [results, Tryz.results14, go_sem, e0, e1, e2, e3, e4, e5, e6, e7, e8]) rfl ⟨rfl, by rw [HH.out]; exact LB⟩
      · have N1 : Hid (findE id (preE A (k + 1)) = none) := U2.out g1
        clear U1 U2
        go_wp2_with fail
        go_roundw
        case rel => exact ⟨k + 1, by omega, by go_num, N1.out, V3.out, D2, B2⟩
        case measure => simp [intOf]; omega
    · obtain rfl : k = n := by omega
      have e : O = none := by rw [← HO.out]; exact q1
      subst e
      clear F1 F2 q1 q3
      have d0 := q5.cell 0 _ rfl
      have f0 := q5.froz 0
      have d1 := q5.cell 1 _ rfl
      have f1 := q5.froz 1
      have d2 := q5.cell 2 _ rfl
      have f2 := q5.froz 2
      have d3 := q5.cell 3 _ rfl
      have f3 := q5.froz 3
      have d4 := q5.cell 4 _ rfl
      have f4 := q5.froz 4
      have d5 := q5.cell 5 _ rfl
      have f5 := q5.froz 5
      have d6 := q5.cell 6 _ rfl
      have f6 := q5.froz 6
      have d7 := q5.cell 7 _ rfl
      have f7 := q5.froz 7
      have d8 := q5.cell 8 _ rfl
      have f8 := q5.froz 8
      go_wp2_with fail
      have RB := Blk.nine (x0 := .int .i64 0) (x1 := .int .i64 0) (x2 := .int .i64 0) (x3 := .int .i64 0) (x4 := .int .i64 0) (x5 := .int .i64 0) (x6 := .int .i64 0) (x7 := .int .u16 0) (x8 := .int .u8 0) q5
      have LB := below_nine (x0 := .int .i64 0) (x1 := .int .i64 0) (x2 := .int .i64 0) (x3 := .int .i64 0) (x4 := .int .i64 0) (x5 := .int .i64 0) (x6 := .int .i64 0) (x7 := .int .u16 0) (x8 := .int .u8 0) q4 (show H ≤ H + 1 by omega)
      generalize ((((((((wr.setCell ⟨H + 1, 0, none⟩ (.int .i64 0)).setCell ⟨H + 1, 1, none⟩ (.int .i64 0)).setCell ⟨H + 1, 2, none⟩ (.int .i64 0)).setCell ⟨H + 1, 3, none⟩ (.int .i64 0)).setCell ⟨H + 1, 4, none⟩ (.int .i64 0)).setCell ⟨H + 1, 5, none⟩ (.int .i64 0)).setCell ⟨H + 1, 6, none⟩ (.int .i64 0)).setCell ⟨H + 1, 7, none⟩ (.int .u16 0)).setCell ⟨H + 1, 8, none⟩ (.int .u8 0) = W9 at RB LB ⊢
      have e0 := RB.cell 0 _ rfl
      have e1 := RB.cell 1 _ rfl
      have e2 := RB.cell 2 _ rfl
      have e3 := RB.cell 3 _ rfl
      have e4 := RB.cell 4 _ rfl
      have e5 := RB.cell 5 _ rfl
      have e6 := RB.cell 6 _ rfl
      have e7 := RB.cell 7 _ rfl
      have e8 := RB.cell 8 _ rfl
      refine bodyPost_ret (v := .tuple #[entV noEnt, .bool false]) (by simp [results, Tryz.results14, go_sem, noEnt, e0, e1, e2, e3, e4, e5, e6, e7, e8]) rfl ⟨rfl, by rw [HH.out]; exact LB⟩
set_option maxHeartbeats 1000000 in
theorem dl_reached (w : World) (x y : En) (o : Bool) (hx : 0 ≤ x.g ∧ x.g ≤ 255) :
    Calls Tryz.prog 56 #[entV x, entV y, .bool o] w fun e w' => e = .returned (.bool (y.g == x.g || (o && y.g == (x.g + 1) % 256))) ∧ Below w.heap.size w w' := by
  obtain ⟨x0, x1, x2, x3, x4, x5, x6, x7, x8⟩ := x
  obtain ⟨y0, y1, y2, y3, y4, y5, y6, y7, y8⟩ := y
  simp only at hx
  obtain ⟨h0, h1⟩ := hx
  have hw : IntKind.u8.wrap (x8 + 1) = (x8 + 1) % 256 := by rw [IntKind.wrap_u8]
  obtain ⟨z, hz⟩ : ∃ z, (x8 + 1) % 256 = z := ⟨_, rfl⟩
  rw [hz] at hw
  have HZ : Hid ((x8 + 1) % 256 = z) := hz
  show Calls _ _ _ _ fun e w' => e = .returned (.bool (y8 == x8 || (o && y8 == (x8 + 1) % 256))) ∧ _
  rw [hz]
  clear hz
  by_cases e1 : y8 = x8
  · have q1 : (y8 == x8) = true := by simp [e1]
    rw [q1, Bool.true_or]
    go_enter Tryz.func56, Tryz.ntmps56
    go_wp2_with fail
    go_ret
    exact ⟨rfl, ((Below.refl _ _).alloc (Nat.le_refl _) _).alloc (by simp) _⟩
  · have q1 : (y8 == x8) = false := by simp [e1]
    rw [q1, Bool.false_or]
    cases o
    · go_enter Tryz.func56, Tryz.ntmps56
      go_wp2_with fail
      go_ret
      exact ⟨by simp, ((Below.refl _ _).alloc (Nat.le_refl _) _).alloc (by simp) _⟩
    · rw [Bool.true_and]
      obtain ⟨b, hb⟩ : ∃ b, (y8 == z) = b := ⟨_, rfl⟩
      rw [hb]
      go_enter Tryz.func56, Tryz.ntmps56
      go_wp2_with fail
      go_ret
      exact ⟨by simp, ((Below.refl _ _).alloc (Nat.le_refl _) _).alloc (by simp) _⟩
def chR (o : Bool) (x y : En) : Rc := if o = true then difR x y else putR y
def chB (o : Bool) (x y : En) : Bool := !o || !entB x y
set_option maxHeartbeats 1000000 in
theorem dl_change (w : World) (x y : En) (o : Bool) :
    Calls Tryz.prog 57 #[entV x, entV y, .bool o] w fun e w' => e = .returned (.tuple #[recV (chR o x y), .bool (chB o x y)]) ∧ Below w.heap.size w w' := by
  cases o
  · show Calls _ _ _ _ fun e w' => e = .returned (.tuple #[recV (putR y), .bool true]) ∧ _
    obtain ⟨x0, x1, x2, x3, x4, x5, x6, x7, x8⟩ := x
    obtain ⟨y0, y1, y2, y3, y4, y5, y6, y7, y8⟩ := y
    go_enter Tryz.func57, Tryz.ntmps57
    go_wp2_with fail
    generalize hW : ((w.alloc (.cells #[.int .i64 x0, .int .i64 x1, .int .i64 x2, .int .i64 x3, .int .i64 x4, .int .i64 x5, .int .i64 x6, .int .u16 x7, .int .u8 x8] 40)).alloc (.cells #[.int .i64 y0, .int .i64 y1, .int .i64 y2, .int .i64 y3, .int .i64 y4, .int .i64 y5, .int .i64 y6, .int .u16 y7, .int .u8 y8] 40)).alloc (.cells #[.int .i64 0, .int .i64 y0, .int .i64 y1, .int .i64 y2, .int .i64 y3, .int .i64 y4, .int .i64 y5, .int .i64 y6, .int .u16 y7] 79) = W
    obtain ⟨_, _, RB, LB, _⟩ := boxed3 hW
    have e0 := RB.cell 0 _ rfl
    have e1 := RB.cell 1 _ rfl
    have e2 := RB.cell 2 _ rfl
    have e3 := RB.cell 3 _ rfl
    have e4 := RB.cell 4 _ rfl
    have e5 := RB.cell 5 _ rfl
    have e6 := RB.cell 6 _ rfl
    have e7 := RB.cell 7 _ rfl
    have e8 := RB.cell 8 _ rfl
    refine bodyPost_ret (v := .tuple #[recV (putR ⟨y0, y1, y2, y3, y4, y5, y6, y7, y8⟩), .bool true]) (by simp [results, Tryz.results57, go_sem, putR, e0, e1, e2, e3, e4, e5, e6, e7, e8]) rfl ⟨rfl, LB⟩
  · have HD : Hid (∀ w', Calls Tryz.prog 95 #[entV x, entV y] w' fun e w'' => e = .returned (.tuple #[recV (difR x y), .bool (!entB x y)]) ∧ Below w'.heap.size w' w'') := fun w' => rec_diff w' x y
    show Calls _ _ _ _ fun e w' => e = .returned (.tuple #[recV (difR x y), .bool (!entB x y)]) ∧ _
    obtain ⟨b, hb⟩ : ∃ b, (!entB x y) = b := ⟨_, rfl⟩
    obtain ⟨r, hr⟩ : ∃ r, difR x y = r := ⟨_, rfl⟩
    rw [hb, hr] at HD
    rw [hb, hr]
    clear hb hr
    obtain ⟨x0, x1, x2, x3, x4, x5, x6, x7, x8⟩ := x
    obtain ⟨y0, y1, y2, y3, y4, y5, y6, y7, y8⟩ := y
    obtain ⟨r0, r1, r2, r3, r4, r5, r6, r7, r8⟩ := r
    go_enter Tryz.func57, Tryz.ntmps57
    go_wp2_with fail
    generalize hW : ((w.alloc (.cells #[.int .i64 x0, .int .i64 x1, .int .i64 x2, .int .i64 x3, .int .i64 x4, .int .i64 x5, .int .i64 x6, .int .u16 x7, .int .u8 x8] 40)).alloc (.cells #[.int .i64 y0, .int .i64 y1, .int .i64 y2, .int .i64 y3, .int .i64 y4, .int .i64 y5, .int .i64 y6, .int .u16 y7, .int .u8 y8] 40)).alloc (.cells #[.int .i64 0, .int .i64 0, .int .i64 0, .int .i64 0, .int .i64 0, .int .i64 0, .int .i64 0, .int .i64 0, .int .u16 0] 79) = W
    obtain ⟨_, _, A2, b0, _⟩ := boxed3 hW
    obtain ⟨H, hH⟩ : ∃ H, w.heap.size = H := ⟨_, rfl⟩
    have HH : Hid (w.heap.size = H) := hH
    rw [hH] at A2 b0
    rw [hH]
    have hle : H ≤ w.heap.size := by omega
    clear hW hH
    refine (HD.out _).mono ?_; rintro e' w1 ⟨rfl, b1⟩
    have D2 := A2.below b1 A2.lt
    have B2 := bup b0 hle b1
    have lv := D2.lt
    have d0 := D2.cell 0 _ rfl
    have f0 := D2.froz 0
    have d1 := D2.cell 1 _ rfl
    have f1 := D2.froz 1
    have d2 := D2.cell 2 _ rfl
    have f2 := D2.froz 2
    have d3 := D2.cell 3 _ rfl
    have f3 := D2.froz 3
    have d4 := D2.cell 4 _ rfl
    have f4 := D2.froz 4
    have d5 := D2.cell 5 _ rfl
    have f5 := D2.froz 5
    have d6 := D2.cell 6 _ rfl
    have f6 := D2.froz 6
    have d7 := D2.cell 7 _ rfl
    have f7 := D2.froz 7
    have d8 := D2.cell 8 _ rfl
    have f8 := D2.froz 8
    clear HD A2 b0 b1
    go_wp2_with fail
    have RB := Blk.nine (x0 := .int .i64 r0) (x1 := .int .i64 r1) (x2 := .int .i64 r2) (x3 := .int .i64 r3) (x4 := .int .i64 r4) (x5 := .int .i64 r5) (x6 := .int .i64 r6) (x7 := .int .i64 r7) (x8 := .int .u16 r8) D2
    have LB := below_nine (x0 := .int .i64 r0) (x1 := .int .i64 r1) (x2 := .int .i64 r2) (x3 := .int .i64 r3) (x4 := .int .i64 r4) (x5 := .int .i64 r5) (x6 := .int .i64 r6) (x7 := .int .i64 r7) (x8 := .int .u16 r8) B2 (show H ≤ H + 1 + 1 by omega)
    generalize ((((((((w1.setCell ⟨H + 1 + 1, 0, none⟩ (.int .i64 r0)).setCell ⟨H + 1 + 1, 1, none⟩ (.int .i64 r1)).setCell ⟨H + 1 + 1, 2, none⟩ (.int .i64 r2)).setCell ⟨H + 1 + 1, 3, none⟩ (.int .i64 r3)).setCell ⟨H + 1 + 1, 4, none⟩ (.int .i64 r4)).setCell ⟨H + 1 + 1, 5, none⟩ (.int .i64 r5)).setCell ⟨H + 1 + 1, 6, none⟩ (.int .i64 r6)).setCell ⟨H + 1 + 1, 7, none⟩ (.int .i64 r7)).setCell ⟨H + 1 + 1, 8, none⟩ (.int .u16 r8) = W9 at RB LB ⊢
    have e0 := RB.cell 0 _ rfl
    have e1 := RB.cell 1 _ rfl
    have e2 := RB.cell 2 _ rfl
    have e3 := RB.cell 3 _ rfl
    have e4 := RB.cell 4 _ rfl
    have e5 := RB.cell 5 _ rfl
    have e6 := RB.cell 6 _ rfl
    have e7 := RB.cell 7 _ rfl
    have e8 := RB.cell 8 _ rfl
    refine bodyPost_ret (v := .tuple #[recV ⟨r0, r1, r2, r3, r4, r5, r6, r7, r8⟩, .bool b]) (by simp [results, Tryz.results57, go_sem, e0, e1, e2, e3, e4, e5, e6, e7, e8]) rfl ⟨rfl, by rw [HH.out]; exact LB⟩
end Go.Proofs.YtokegpajjicehaaGreat
