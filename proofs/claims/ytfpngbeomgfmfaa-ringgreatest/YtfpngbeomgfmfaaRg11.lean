/-
  Layer 11 (ring): a map that tells a ring's numbers and their things (no function of the program in sight, but for the map's types).
-/
import Derived.Test.YtfpngbeomgfmfaaRg8
import Derived.Maps.RangeWalk
namespace Go.Proofs.Ytfpngbeomgfmfaa
open Go.RowKit
set_option linter.unusedVariables false
set_option maxRecDepth 20000
def RVr (v : Value) : Option (DataW Value × List MemPlace) := some (.held v, [])
theorem law_i64 : Go.Maps.Keyed Try.prog 2 := Go.Maps.int_keyed Try.underlying2
theorem zeroInt11 (w : World) : (zeroValue 3).run Try.prog w = .ok (.int .i64 0) w := by kernel_rfl
def In64 (x : Int) : Prop := -9223372036854775808 ≤ x ∧ x ≤ 9223372036854775807
theorem wf64 {x : Int} (h : In64 x) : (Lit.int .i64 x).wf = true := Go.WalkArith.wf_i64 h
theorem key64 {x : Int} (h : In64 x) : Go.WideAt.IsKeyLit (.int .i64 x) := law_i64.key (Go.Maps.keyOf_int_mk Try.underlying2 (wf64 h))
/-- A map's datum tells these numbers, and their things. -/
structure TellsP (D : DataW Value) (L : List Pr) : Prop where
  isMap : Go.Maps.IsMap D
  size : Go.Maps.size D = L.length
  at_in : ∀ p ∈ L, ∀ z, D.atKey (.int .i64 p.1) z = .held p.2
  has_in : ∀ p ∈ L, Go.Maps.has D (.int .i64 p.1) = true
  at_out : ∀ x, In64 x → (∀ p ∈ L, p.1 ≠ x) → ∀ z, D.atKey (.int .i64 x) z = z
  has_out : ∀ x, In64 x → (∀ p ∈ L, p.1 ≠ x) → Go.Maps.has D (.int .i64 x) = false
  ok : ∀ p ∈ L, In64 p.1
theorem TellsP.nil : TellsP (.map []) [] := ⟨⟨_, rfl⟩, rfl, fun p hp => (by cases hp), fun p hp => (by cases hp), fun _ _ _ _ => rfl, fun _ _ _ => rfl, fun p hp => (by cases hp)⟩
theorem TellsP.put {D : DataW Value} {L : List Pr} (h : TellsP D L) (ht : Go.Maps.Tidy D) {k : Int} (hk : In64 k) (hn : ∀ p ∈ L, p.1 ≠ k) (x : Value) : TellsP (D.put (.int .i64 k) (.held x)) (laid L k x) := by
  refine ⟨h.isMap.put _ _, ?_, fun p hp z => ?_, fun p hp => ?_, fun y hy hout z => ?_, fun y hy hout => ?_, fun p hp => ?_⟩
  · rw [Go.Maps.size_put ht, h.has_out k hk hn, h.size, laid_len]; rfl
  · rcases mem_laid.1 hp with rfl | hp
    · rw [Go.Maps.atKey_put_same h.isMap (key64 hk)]
    · rw [Go.Maps.atKey_put_other (by intro q; injection q with _ q; exact hn p hp q)]; exact h.at_in p hp z
  · rcases mem_laid.1 hp with rfl | hp
    · rw [Go.Maps.has_put_same h.isMap (key64 hk)]
    · rw [Go.Maps.has_put_other (by intro q; injection q with _ q; exact hn p hp q)]; exact h.has_in p hp
  · have hyk : y ≠ k := fun e => hout (k, x) (mem_laid.2 (Or.inl rfl)) e.symm
    rw [Go.Maps.atKey_put_other (by intro q; injection q with _ q; exact hyk q)]
    exact h.at_out y hy (fun p hp => hout p (mem_laid.2 (Or.inr hp))) z
  · have hyk : y ≠ k := fun e => hout (k, x) (mem_laid.2 (Or.inl rfl)) e.symm
    rw [Go.Maps.has_put_other (by intro q; injection q with _ q; exact hyk q)]
    exact h.has_out y hy (fun p hp => hout p (mem_laid.2 (Or.inr hp)))
  · rcases mem_laid.1 hp with rfl | hp
    · exact hk
    · exact h.ok p hp
theorem TellsP.del {D : DataW Value} {L : List Pr} (h : TellsP D L) (ht : Go.Maps.Tidy D) (hr : Rise L) (hl : L ≠ []) : TellsP (D.del (.int .i64 (keyAt L 0))) L.tail := by
  have hp0 := List.length_pos_iff.2 hl
  obtain ⟨p0, hm0, hk0, _⟩ := keyAt_mem hp0
  have hS : In64 (keyAt L 0) := by rw [← hk0]; exact h.ok p0 hm0
  have hh : Go.Maps.has D (.int .i64 (keyAt L 0)) = true := by rw [← hk0]; exact h.has_in p0 hm0
  have hne : ∀ p ∈ L.tail, p.1 ≠ keyAt L 0 := fun p hp => by have := (tail_mem hr p hp).1; omega
  have hout : ∀ y, (∀ p ∈ L.tail, p.1 ≠ y) → y ≠ keyAt L 0 → ∀ p ∈ L, p.1 ≠ y := fun y h1 h2 p hp => by
    cases L with
    | nil => exact absurd rfl hl
    | cons q L =>
      rcases List.mem_cons.1 hp with rfl | hp
      · exact fun e => h2 e.symm
      · exact h1 p hp
  refine ⟨h.isMap.del _, ?_, fun p hp z => ?_, fun p hp => ?_, fun y hy ho z => ?_, fun y hy ho => ?_, fun p hp => h.ok p (tail_mem hr p hp).2⟩
  · have h1 := Go.Maps.size_del ht (k := .int .i64 (keyAt L 0))
    rw [hh, h.size] at h1
    rw [List.length_tail]
    simp at h1; omega
  · rw [Go.Maps.atKey_del_other (by intro q; injection q with _ q; exact hne p hp q)]; exact h.at_in p (tail_mem hr p hp).2 z
  · rw [Go.Maps.has_del_other (by intro q; injection q with _ q; exact hne p hp q)]; exact h.has_in p (tail_mem hr p hp).2
  · by_cases e : y = keyAt L 0
    · subst e; rw [Go.Maps.atKey_del_same]
    · rw [Go.Maps.atKey_del_other (by intro q; injection q with _ q; exact e q)]; exact h.at_out y hy (hout y ho e) z
  · by_cases e : y = keyAt L 0
    · subst e; rw [Go.Maps.has_del_same]
    · rw [Go.Maps.has_del_other (by intro q; injection q with _ q; exact e q)]; exact h.has_out y hy (hout y ho e)
/-- Block b is a map of these numbers and things. -/
def MapP (w : World) (b : Nat) (L : List Pr) : Prop := ∃ D, w.ownsMap Try.prog 2 RVr b L.length D ∧ TellsP D L
theorem own_minP {w : World} {b n : Nat} {D : DataW Value} (h : w.ownsMap Try.prog 2 RVr b n D) : w.ownsMap Try.prog 2 RVr b (Go.Maps.size D) D := by
  obtain ⟨es, clock, hb, F, hs, rfl⟩ := h
  exact ⟨es, clock, hb, F, by simp [Go.Maps.size, length_sorted], rfl⟩
theorem MapP.lt {w : World} {b : Nat} {L : List Pr} (h : MapP w b L) : b < w.heap.size := by obtain ⟨_, h, _⟩ := h; exact h.lt
theorem MapP.made (w : World) : MapP (w.alloc (.map #[] 0)) w.heap.size [] := ⟨_, World.ownsMap_made w _ _ _, TellsP.nil⟩
theorem MapP.same {w w' : World} {b : Nat} {L : List Pr} (h : MapP w b L) (hb : w'.heap[b]? = w.heap[b]?) : MapP w' b L := by
  obtain ⟨D, ⟨es, clock, h1, h2⟩, h3⟩ := h
  exact ⟨D, ⟨es, clock, hb.trans h1, h2⟩, h3⟩
theorem MapP.below {w w' : World} {b : Nat} {L : List Pr} (h : MapP w b L) (hb : Below w.heap.size w w') : MapP w' b L := h.same (hb.block b h.lt)
theorem MapP.chg {B R : Nat} {v v' : Value} {w w' : World} {b : Nat} {L : List Pr} (h : MapP w b L) (hc : Chg B R v v' w w') (hR : b ≠ R) (hv : some b ≠ v.ownBlock) : MapP w' b L ∧ some b ≠ v'.ownBlock :=
  ⟨h.same (hc.block b h.lt hR hv), hc.off h.lt hv⟩
/-- What a map's call leaves alone. -/
theorem RngV.map {e : TypeId} {w w' : World} {B R : Nat} {v : Value} {s : Rs} {b : Nat} (h : RngV e w B R v s) (hg : w.grownBy w' (some b)) (hR : b ≠ R) (hv : some b ≠ v.ownBlock) : RngV e w' B R v s := by
  refine ⟨h.blk.grwn hg (fun e => hR (by injection e with e; exact e.symm)), h.own.kept hg ?_, h.ok, h.ones, h.ne, h.le⟩
  cases hq : v.ownBlock with
  | none => exact Or.inl rfl
  | some g => right; intro e; exact hv (by rw [hq]; exact e.symm)
section
variable {w : World} {ops : Array Oper} {rest : List Oper} {o : Oper} {a : Act} {Q : Exit → Act → World → Prop}
theorem lookP_in (hg : o.guard = none) (m x : Operand) (hop : o.op = Op.lookup 57 m x true) (b : Nat) (L : List Pr) (hm : a.eval m = .map (some b)) (h : MapP w b L) (p : Pr) (hp : p ∈ L) (hx : a.eval x = .int .i64 p.1)
    (hK : wpList Try.prog ops Q rest (a.put o.dst (.tuple #[p.2, .bool true])) w) : wpList Try.prog ops Q (o :: rest) a w := by
  obtain ⟨D, h1, h2⟩ := h
  refine wpList_lookup_own_ok _ hg m x 57 hop 2 3 law_i64 Try.underlying57 RVr (zeroInt11 w) (.held (.int .i64 0)) [] rfl b L.length D hm h1 _ (.int .i64 p.1) hx (Go.Maps.keyOf_int_mk Try.underlying2 (wf64 (h2.ok p hp))) ?_
  intro v ps hv
  rw [h2.at_in p hp] at hv
  rw [h2.has_in p hp]
  have e : v = p.2 := by simp [RVr] at hv; exact hv.1
  rw [e]
  exact hK
theorem lookP_out (hg : o.guard = none) (m x : Operand) (hop : o.op = Op.lookup 57 m x true) (b : Nat) (L : List Pr) (hm : a.eval m = .map (some b)) (h : MapP w b L) (k : Int) (hk : In64 k) (hn : ∀ p ∈ L, p.1 ≠ k) (hx : a.eval x = .int .i64 k)
    (hK : wpList Try.prog ops Q rest (a.put o.dst (.tuple #[.int .i64 0, .bool false])) w) : wpList Try.prog ops Q (o :: rest) a w := by
  obtain ⟨D, h1, h2⟩ := h
  refine wpList_lookup_own_ok _ hg m x 57 hop 2 3 law_i64 Try.underlying57 RVr (zeroInt11 w) (.held (.int .i64 0)) [] rfl b L.length D hm h1 _ (.int .i64 k) hx (Go.Maps.keyOf_int_mk Try.underlying2 (wf64 hk)) ?_
  intro v ps hv
  rw [h2.at_out k hk hn] at hv
  rw [h2.has_out k hk hn]
  have e : v = .int .i64 0 := by simp [RVr] at hv; exact hv.1
  rw [e]
  exact hK
theorem storeP_wp (hg : o.guard = none) (m x v : Operand) (hop : o.op = Op.mapUpdate 57 m x v) (b : Nat) (L : List Pr) (hm : a.eval m = .map (some b)) (h : MapP w b L) (hlen : L.length ≤ 1000) (k : Int) (hk : In64 k) (hn : ∀ p ∈ L, p.1 ≠ k) (z : Value) (hx : a.eval x = .int .i64 k) (hv : a.eval v = z)
    (hK : ∀ w', MapP w' b (laid L k z) → w.grownBy w' (some b) → wpList Try.prog ops Q rest (a.put o.dst undef) w') : wpList Try.prog ops Q (o :: rest) a w := by
  obtain ⟨D, h1, h2⟩ := h
  refine wpList_mapUpdate_own _ hg m x v 57 hop 2 3 law_i64 Try.underlying57 RVr b L.length D hm h1 (by unfold maxLen; omega) _ _ (.int .i64 k) hx hv (Go.Maps.keyOf_int_mk Try.underlying2 (wf64 hk)) (.held z) [] rfl ?_
  intro w' h1' hg'
  have hT := h2.put (h1.tidy law_i64) hk hn z
  refine hK w' ⟨_, ?_, hT⟩ hg'
  have := own_minP h1'
  rw [hT.size] at this
  exact this
theorem delP_wp (hg : o.guard = none) (m x : Operand) (hop : o.op = Op.call { callee := Callee.builtin Builtin.delete, args := #[m, x], argTypes := #[57, 2] }) (b : Nat) (L : List Pr) (hm : a.eval m = .map (some b)) (h : MapP w b L) (hr : Rise L) (hl : L ≠ []) (z : Int) (hz : keyAt L 0 = z) (hx : a.eval x = .int .i64 z)
    (hK : ∀ w', MapP w' b L.tail → w.grownBy w' (some b) → wpList Try.prog ops Q rest (a.put o.dst (.tuple #[])) w') : wpList Try.prog ops Q (o :: rest) a w := by
  subst hz
  obtain ⟨D, h1, h2⟩ := h
  have hp0 := List.length_pos_iff.2 hl
  obtain ⟨p0, hm0, hk0, _⟩ := keyAt_mem hp0
  have hS : In64 (keyAt L 0) := by rw [← hk0]; exact h2.ok p0 hm0
  refine wpList_delete_own _ hg m x 57 2 hop 3 law_i64 Try.underlying57 RVr b L.length D hm h1 _ (.int .i64 (keyAt L 0)) hx (Go.Maps.keyOf_int_mk Try.underlying2 (wf64 hS)) ?_
  intro w' h1' hg'
  have hT := h2.del (h1.tidy law_i64) hr hl
  refine hK w' ⟨_, ?_, hT⟩ hg'.grown
  have := own_minP h1'
  rw [hT.size] at this
  exact this
theorem lenP_wp (hg : o.guard = none) (m : Operand) (hop : o.op = Op.call { callee := Callee.builtin Builtin.len, args := #[m], argTypes := #[57] }) (b : Nat) (L : List Pr) (hm : a.eval m = .map (some b)) (h : MapP w b L) (n : Nat) (hn : L.length = n)
    (hK : wpList Try.prog ops Q rest (a.put o.dst (.int .i64 (n : Nat))) w) : wpList Try.prog ops Q (o :: rest) a w := by
  subst hn
  obtain ⟨D, h1, h2⟩ := h
  refine wpList_len_own _ hg m 57 hop 2 3 Try.underlying57 RVr b L.length D hm h1 ?_
  rw [h2.size]
  exact hK
end
theorem has_any (w : World) (b : Nat) (L : List Pr) (h : MapP w b L) (hr : Rise L) (k : Int) (hk : In64 k) : Calls Try.prog 25 #[.map (some b), .int .i64 k] w fun e w' => e = .returned (.bool (isAt L k)) ∧ w' = w := by
  have HM : Hid (MapP w b L) := h
  by_cases hi : isAt L k = true
  · obtain ⟨p, hp, rfl⟩ := (isAt_iff hr k).1 hi
    rw [hi]
    clear h hi
    go_enter Try.func25, Try.ntmps25
    go_wp2_with (refine lookP_in rfl _ _ rfl b L rfl HM.out p hp rfl ?_)
    go_ret
    exact ⟨rfl, rfl⟩
  · have hi' : isAt L k = false := by simpa using hi
    have hn : Hid (∀ p ∈ L, p.1 ≠ k) := fun p hp e => hi ((isAt_iff hr k).2 ⟨p, hp, e⟩)
    rw [hi']
    clear h hi hi'
    go_enter Try.func25, Try.ntmps25
    go_wp2_with (refine lookP_out rfl _ _ rfl b L rfl HM.out k hk hn.out rfl ?_)
    go_ret
    exact ⟨rfl, rfl⟩
/-- Things are numbers. -/
def IntT (L : List Pr) : Prop := ∀ p ∈ L, ∃ t, p.2 = .int .i64 t
theorem intT_lay {s : Rs} (h : IntT s.L) (k t : Int) : IntT (layS s k (.int .i64 t)).L := by
  have hl : IntT (laid s.L k (.int .i64 t)) := fun p hp => by
    rcases mem_laid.1 hp with rfl | hp
    · exact ⟨t, rfl⟩
    · exact h p hp
  unfold layS
  split
  · exact h
  split
  · exact h
  split
  · exact hl
  · exact fun p hp => hl p (List.mem_of_mem_tail hp)
end Go.Proofs.Ytfpngbeomgfmfaa
