/-
  Texts Dl21, Dl22, Rg1, Ly2, Sg2 in one.
-/
import Derived.Maps.AppendAt
import Derived.Laws.OwnMore
import GoSem.Claim
import Derived.Test.YtlpdhglibgnkoaaGreatRows
import Derived.Shelf.SlSorted.Search
import Derived.Deep.AppendLies
import Derived.Laws.IdiomCopy
import Derived.Deep.Upon
import Derived.Test.YtlpdhglibgnkoaaGreatP24
namespace Go.Proofs.YtlpdhglibgnkoaaGreat
open Go.RowKit
set_option linter.unusedVariables false
set_option maxRecDepth 20000
/-- A row without its entity number i. -/
def cutL (L : List En) (i : Nat) : List En := L.take i ++ L.drop (i + 1)
/-! append of a slice of entities -/
theorem ents_app (L M : List En) : ents (L ++ M) = ents L ++ ents M := by unfold ents; simp
theorem ents_one (L : List En) : ∀ u ∈ ents L, u.oneCell' = true := by
  intro u hu
  unfold ents at hu
  rw [List.mem_flatMap] at hu
  obtain ⟨r, _, hu⟩ := hu
  exact entC_one r u hu
theorem appE_op {w : World} {o : Oper} {a : Act} {K : Act → World → Prop} {Q : Exit → Act → World → Prop} (s x : Operand)
    (ho : o.op = .call { callee := .builtin .append, args := #[s, x], argTypes := #[43, 43] })
    (B : Nat) (v : Value) (L : List En) (hs : a.eval s = v) (hown : OwnE w B v L) (ad : Addr) (m c : Nat) (N : List En) (hx : a.eval x = .slice (some ad) m c) (hm : N.length = m)
    (hr : ∀ j u, (ents N)[j]? = some u → w.cell? (ad.add j) = some u) (hlen : L.length + N.length ≤ 1000000) (hB : B ≤ w.heap.size)
    (h : ∀ v' w', OwnE w' B v' (L ++ N) → Grow B v w v' w' → K (a.put o.dst v') w') : o.wp Tryz.prog a w K Q := by
  obtain ⟨i0, hi, hz0, hz1, hz2⟩ := info_parts infoE
  obtain ⟨v', w', hrun, h2, h3, _, h5⟩ := run_append_own_at (P := Tryz.prog) w B 43 o.type 69 i0 (entV noEnt) 9 64 Tryz.underlying43 hi hz0 hz1 hz2 rfl (by decide) v L.length (ents L) hown ad m c (ents N) (by rw [ents_len, hm]) hr (ents_one N) (by unfold maxLen; omega) (by omega) hB
  unfold Oper.wp
  simp [execOp, ho, resolve, invoke, builtin, hs, hx, hrun, Result.andThen]
  refine h v' w' ?_ ⟨(Below.refl B w).grown h3 hB (fun k hk => (hown.lt k hk).1), h3, h5⟩
  unfold OwnE
  rw [List.length_append, hm, ents_app]
  exact h2
theorem appE_step {w : World} {ops : Array Oper} {o : Oper} {a : Act} {K : Act → World → Prop} {Q : Exit → Act → World → Prop} {E : Prop} (hgd : o.guard = none) (d : Option Nat) (hd : o.dst = d) (s x : Operand)
    (ho : o.op = .call { callee := .builtin .append, args := #[s, x], argTypes := #[43, 43] })
    (B : Nat) (v : Value) (L : List En) (hs : a.eval s = v) (hown : OwnE w B v L) (ad : Addr) (m c : Nat) (N : List En) (hx : a.eval x = .slice (some ad) m c) (hm : N.length = m)
    (hr : ∀ j u, (ents N)[j]? = some u → w.cell? (ad.add j) = some u) (hlen : L.length + N.length ≤ 1000000) (hB : B ≤ w.heap.size)
    (h : ∀ v' w', OwnE w' B v' (L ++ N) → Grow B v w v' w' → K (a.put d v') w') :
    if Region.wanted o (yielded ops a.tmps) = true then Oper.wp Tryz.prog o a w K Q else E := by
  subst hd
  have hw : Region.wanted o (yielded ops a.tmps) = true := by simp [Region.wanted, hgd]
  rw [if_pos hw]
  exact appE_op s x ho B v L hs hown ad m c N hx hm hr hlen hB h
theorem ents_rd {w : World} {b o n : Nat} {A : Nat → En} (h : ∀ i, i < n → ∀ j x, (entC (A i))[j]? = some x → w.cell? ⟨b, o + i * 9 + j, none⟩ = some x) (j : Nat) (u : Value) (hu : (ents (preE A n))[j]? = some u) : w.cell? ⟨b, o + j, none⟩ = some u := by
  have hj : j < n * 9 := by have := (List.getElem?_eq_some_iff.1 hu).1; rwa [ents_len, preE_len] at this
  have hq : j / 9 < n := by omega
  have hl : (entC (A (j / 9))).length = 9 := rfl
  obtain ⟨x, hx⟩ : ∃ x, (entC (A (j / 9)))[j % 9]? = some x := ⟨_, List.getElem?_eq_getElem (by rw [hl]; omega)⟩
  have e := preE_at A n (j / 9) hq
  have e2 := ents_at (preE A n) (j / 9) (j % 9) x (by rw [preE_len]; exact hq) (by
    have e' : (preE A n).getD (j / 9) noEnt = A (j / 9) := e
    rw [e']; exact hx)
  rw [show j / 9 * 9 + j % 9 = j by omega, hu] at e2
  injection e2 with e2
  subst e2
  have := h (j / 9) hq (j % 9) u hx
  rw [show o + j / 9 * 9 + j % 9 = o + j by omega] at this
  exact this
theorem ents_drop (L : List En) (i j : Nat) (hi : i ≤ L.length) (u : Value) (h : (ents (L.drop i))[j]? = some u) : (ents L)[i * 9 + j]? = some u := by
  have e : ents L = ents (L.take i) ++ ents (L.drop i) := by rw [← ents_app, List.take_append_drop]
  have hl : (ents (L.take i)).length = i * 9 := by rw [ents_len, List.length_take]; congr 1; omega
  rw [e, List.getElem?_append_right (by omega), hl, Nat.add_sub_cancel_left]; exact h
/-- A new row without entities. -/
theorem ownE_new (w : World) (B : Nat) (hB : B ≤ w.heap.size) : OwnE (w.alloc (.cells #[] 69)) B (.slice (some ⟨w.heap.size, 0, none⟩) 0 0) [] :=
  ⟨rfl, Or.inr ⟨w.heap.size, 0, #[], rfl, hB, heap_alloc_new w _, Nat.le_refl _, by unfold maxLen; omega, rfl, rfl⟩⟩
theorem ownE_three {w : World} {B b : Nat} {v x0 x1 x2 : Value} {L : List En} (h : OwnE w B v L) (hne : some b ≠ v.ownBlock) : OwnE (((w.setCell ⟨b, 0, none⟩ x0).setCell ⟨b, 1, none⟩ x1).setCell ⟨b, 2, none⟩ x2) B v L := by
  have g : w.grownBy (((w.setCell ⟨b, 0, none⟩ x0).setCell ⟨b, 1, none⟩ x1).setCell ⟨b, 2, none⟩ x2) (some b) :=
    ⟨rfl, rfl, rfl, by simp, fun k _ hk => by
      have hb : k ≠ b := fun e => hk (by rw [e])
      rw [heap_setCell_other _ ⟨b, 2, none⟩ k _ hb, heap_setCell_other _ ⟨b, 1, none⟩ k _ hb, heap_setCell_other _ ⟨b, 0, none⟩ k _ hb]⟩
  refine World.ownsRow.kept h g ?_
  cases hq : v.ownBlock with
  | none => exact Or.inl rfl
  | some q => exact Or.inr (fun e => hne (by rw [hq]; exact e.symm))
end Go.Proofs.YtlpdhglibgnkoaaGreat

namespace Go.Proofs.YtlpdhglibgnkoaaGreat
open Go.RowKit
set_option linter.unusedVariables false

/-- A row ahead of what is made. -/
def appO {α : Type} (S : List α) (o : Option (List α)) : Option (List α) := o.map (S ++ ·)
theorem appO_nil {α : Type} (o : Option (List α)) : appO [] o = o := by cases o <;> rfl
theorem appO_cons {α : Type} (S : List α) (x : α) (o : Option (List α)) : appO S (consO x o) = appO (S ++ [x]) o := by
  cases o <;> simp [appO, consO]
theorem appO_some {α : Type} (S T : List α) : appO S (some T) = some (S ++ T) := rfl
theorem dropE_cons (A : Nat → En) {n i : Nat} (h : i < n) : (preE A n).drop i = A i :: (preE A n).drop (i + 1) := by
  have hl : i < (preE A n).length := by rw [preE_len]; exact h
  rw [List.drop_eq_getElem_cons hl]
  congr 1
  simp [preE]
theorem dropE_end (A : Nat → En) {n i : Nat} (h : n ≤ i) : (preE A n).drop i = [] := List.drop_of_length_le (by rw [preE_len]; exact h)
theorem dropR_cons (A : Nat → Rc) {n i : Nat} (h : i < n) : (pre A n).drop i = A i :: (pre A n).drop (i + 1) := by
  have hl : i < (pre A n).length := by rw [pre_len]; exact h
  rw [List.drop_eq_getElem_cons hl]
  congr 1
  simp [pre]
theorem dropR_end (A : Nat → Rc) {n i : Nat} (h : n ≤ i) : (pre A n).drop i = [] := List.drop_of_length_le (by rw [pre_len]; exact h)

section
variable (Aa : Nat → En) (nw : Nat) (A : Nat → Rc) (n : Nat)
/-- What Apply makes: entities that stand, and what is behind both places. -/
def apS (S : List En) (i k : Nat) : Option (List En) := appO S (apl ((preE Aa nw).drop i) ((pre A n).drop k))
variable {Aa nw A n}
theorem apS_start : apS Aa nw A n [] 0 0 = apl (preE Aa nw) (pre A n) := appO_nil _
theorem apS_skip {S : List En} {i k : Nat} (hi : i < nw) (hk : k < n) (h : (Aa i).i < (A k).i) : apS Aa nw A n S i k = apS Aa nw A n (S ++ [Aa i]) (i + 1) k := by
  unfold apS
  rw [dropE_cons Aa hi, dropR_cons A hk, apl_cc, if_pos h, appO_cons]
theorem apS_put {S : List En} {i k : Nat} (hk : k < n) (h : i < nw → (A k).i < (Aa i).i) (hz : (A k).k = 0) : apS Aa nw A n S i k = apS Aa nw A n (S ++ [newE (A k)]) i (k + 1) := by
  unfold apS
  rcases Nat.lt_or_ge i nw with hi | hi
  · have := h hi
    rw [dropE_cons Aa hi, dropR_cons A hk, apl_cc, if_neg (by omega), if_neg (by omega), if_pos hz, appO_cons]
  · rw [dropE_end Aa hi, dropR_cons A hk, apl_nc, if_pos hz, appO_cons]
theorem apS_none {S : List En} {i k : Nat} (hk : k < n) (h : i < nw → (A k).i < (Aa i).i) (hz : (A k).k ≠ 0) : apS Aa nw A n S i k = none := by
  unfold apS
  rcases Nat.lt_or_ge i nw with hi | hi
  · have := h hi
    rw [dropE_cons Aa hi, dropR_cons A hk, apl_cc, if_neg (by omega), if_neg (by omega), if_neg hz]; rfl
  · rw [dropE_end Aa hi, dropR_cons A hk, apl_nc, if_neg hz]; rfl
theorem apS_there {S : List En} {i k : Nat} (hi : i < nw) (hk : k < n) (h : (Aa i).i = (A k).i) (hz : (A k).k = 0) : apS Aa nw A n S i k = none := by
  unfold apS
  rw [dropE_cons Aa hi, dropR_cons A hk, apl_cc, if_neg (by omega), if_pos h, if_pos hz]; rfl
theorem apS_rem {S : List En} {i k : Nat} (hi : i < nw) (hk : k < n) (h : (Aa i).i = (A k).i) (hz : (A k).k = 2) : apS Aa nw A n S i k = apS Aa nw A n S (i + 1) (k + 1) := by
  unfold apS
  rw [dropE_cons Aa hi, dropR_cons A hk, apl_cc, if_neg (by omega), if_pos h, if_neg (by omega), if_pos hz]
theorem apS_new {S : List En} {i k : Nat} (hi : i < nw) (hk : k < n) (h : (Aa i).i = (A k).i) (h0 : (A k).k ≠ 0) (hz : (A k).k ≠ 2) : apS Aa nw A n S i k = apS Aa nw A n (S ++ [appN (Aa i) (A k)]) (i + 1) (k + 1) := by
  unfold apS
  rw [dropE_cons Aa hi, dropR_cons A hk, apl_cc, if_neg (by omega), if_pos h, if_neg h0, if_neg hz, appO_cons]
theorem apS_end {S : List En} {i : Nat} : apS Aa nw A n S i n = some (S ++ (preE Aa nw).drop i) := by
  unfold apS
  rw [dropR_end A (Nat.le_refl _), apl_nil, appO_some]
end

section
variable (A : Nat → En) (na : Nat) (B : Nat → En) (nb : Nat)
/-- What Diff makes: records that stand, and what is behind both places. -/
def mgS (S : List Rc) (i k : Nat) : Option (List Rc) := appO S (mrg ((preE A na).drop i) ((preE B nb).drop k))
variable {A na B nb}
end
end Go.Proofs.YtlpdhglibgnkoaaGreat

namespace Go.Proofs.YtlpdhglibgnkoaaGreat
open Go
set_option linter.unusedVariables false

/-- A number, and the thing at it. -/
abbrev Pr := Int × Value
def noPr : Pr := (0, .int .i64 0)
/-- The numbers rise. -/
def Rise (L : List Pr) : Prop := L.Pairwise fun p q => p.1 < q.1
/-- How many numbers are no greater. -/
def untl (L : List Pr) (k : Int) : Nat := L.countP fun p => decide (p.1 ≤ k)
def keyAt (L : List Pr) (i : Nat) : Int := (L.getD i noPr).1
def thing (L : List Pr) (i : Nat) : Value := (L.getD i noPr).2
theorem untl_le (L : List Pr) (k : Int) : untl L k ≤ L.length := List.countP_le_length
theorem untl_cons (p : Pr) (L : List Pr) (k : Int) : untl (p :: L) k = untl L k + (if p.1 ≤ k then 1 else 0) := by
  unfold untl; rw [List.countP_cons]; simp
theorem keyAt_zero (p : Pr) (L : List Pr) : keyAt (p :: L) 0 = p.1 := rfl
theorem keyAt_succ (p : Pr) (L : List Pr) (i : Nat) : keyAt (p :: L) (i + 1) = keyAt L i := rfl
theorem keyAt_mem {L : List Pr} {i : Nat} (h : i < L.length) : ∃ p ∈ L, p.1 = keyAt L i ∧ p.2 = thing L i := by
  refine ⟨L[i], List.getElem_mem h, ?_, ?_⟩ <;> simp [keyAt, thing, List.getD, h]
theorem mem_keyAt {L : List Pr} {p : Pr} (h : p ∈ L) : ∃ i, i < L.length ∧ keyAt L i = p.1 ∧ thing L i = p.2 := by
  obtain ⟨i, hi, rfl⟩ := List.getElem_of_mem h
  exact ⟨i, hi, by simp [keyAt, List.getD, hi], by simp [thing, List.getD, hi]⟩
theorem rise_cons {p : Pr} {L : List Pr} (h : Rise (p :: L)) : (∀ q ∈ L, p.1 < q.1) ∧ Rise L := by
  unfold Rise at h ⊢; rw [List.pairwise_cons] at h; exact h
theorem untl_none {L : List Pr} {k : Int} (h : ∀ q ∈ L, k < q.1) : untl L k = 0 := by
  unfold untl; rw [List.countP_eq_zero]; intro q hq; have := h q hq; simp; omega
/-- Ahead of the place that is sought numbers are no greater, from it on they are. -/
theorem untl_iff : ∀ {L : List Pr} (_ : Rise L) (k : Int) (i : Nat), i < L.length → (i < untl L k ↔ keyAt L i ≤ k)
  | [], _, _, _, h => by simp at h
  | p :: L, hr, k, i, h => by
    obtain ⟨h1, h2⟩ := rise_cons hr
    rw [untl_cons]
    rcases i with _ | i
    · rw [keyAt_zero]
      by_cases hp : p.1 ≤ k
      · simp [hp]
      · rw [untl_none (fun q hq => by have := h1 q hq; omega)]; simp [hp]
    · rw [keyAt_succ]
      have hi : i < L.length := by simpa using h
      have ih := untl_iff h2 k i hi
      obtain ⟨q, hq, hk, _⟩ := keyAt_mem hi
      by_cases hp : p.1 ≤ k
      · simp only [hp, if_true]; rw [← ih]; omega
      · have := h1 q hq
        simp only [hp, if_false]; rw [← ih]; rw [untl_none (fun q hq => by have := h1 q hq; omega)]; omega
theorem keyAt_lt : ∀ {L : List Pr} (_ : Rise L) {i j : Nat}, i < j → j < L.length → keyAt L i < keyAt L j
  | [], _, _, _, _, h => by simp at h
  | p :: L, hr, i, j + 1, hij, h => by
    obtain ⟨h1, h2⟩ := rise_cons hr
    have hj : j < L.length := by simpa using h
    rcases i with _ | i
    · rw [keyAt_zero, keyAt_succ]
      obtain ⟨q, hq, hk, _⟩ := keyAt_mem hj
      rw [← hk]; exact h1 q hq
    · rw [keyAt_succ, keyAt_succ]
      exact keyAt_lt h2 (by omega) hj
  | p :: L, hr, i, 0, hij, h => by omega
/-- A number is there just if it stands ahead of the place that is sought. -/
theorem there_iff {L : List Pr} (hr : Rise L) (k : Int) : (∃ p ∈ L, p.1 = k) ↔ (0 < untl L k ∧ keyAt L (untl L k - 1) = k) := by
  constructor
  · rintro ⟨p, hp, rfl⟩
    obtain ⟨i, hi, hk, _⟩ := mem_keyAt hp
    have h1 := (untl_iff hr p.1 i hi).2 (by omega)
    refine ⟨by omega, ?_⟩
    have hu := untl_le L p.1
    have h2 := (untl_iff hr p.1 (untl L p.1 - 1) (by omega)).1 (by omega)
    rcases Nat.lt_or_ge i (untl L p.1 - 1) with h | h
    · have := keyAt_lt hr h (by omega); omega
    · have e : i = untl L p.1 - 1 := by omega
      rw [← e]; exact hk
  · rintro ⟨h1, h2⟩
    have hu := untl_le L k
    obtain ⟨p, hp, hk, _⟩ := keyAt_mem (L := L) (i := untl L k - 1) (by omega)
    exact ⟨p, hp, hk.trans h2⟩

/-- A ring: how many numbers there may be; they, with their things; the greatest that went; whether one did. -/
structure Rs where
  M : Nat
  L : List Pr
  F : Int
  G : Bool
/-- The number is there. -/
def isAt (L : List Pr) (k : Int) : Bool := decide (0 < untl L k) && decide (keyAt L (untl L k - 1) = k)
/-- The thing at a number, or that of none. -/
def getX (L : List Pr) (k : Int) (z : Value) : Value := if isAt L k then thing L (untl L k - 1) else z
/-- The number laid, with its thing. -/
def laid (L : List Pr) (k : Int) (x : Value) : List Pr := L.take (untl L k) ++ (k, x) :: L.drop (untl L k)
theorem laid_len (L : List Pr) (k : Int) (x : Value) : (laid L k x).length = L.length + 1 := by
  have := untl_le L k
  unfold laid; simp; omega
/-- What Lay answers: the number that goes, whether one does, the error. -/
def layA (s : Rs) (k : Int) : Int × Bool × Int :=
  if isAt s.L k then (0, false, 12)
  else if untl s.L k = 0 ∧ s.L.length = s.M then (0, false, 13)
  else if s.L.length < s.M then (0, false, 0)
  else (keyAt (laid s.L k noPr.2) 0, true, 0)
/-- How the ring stands behind it. -/
def layS (s : Rs) (k : Int) (x : Value) : Rs :=
  if isAt s.L k then s
  else if untl s.L k = 0 ∧ s.L.length = s.M then s
  else if s.L.length < s.M then { s with L := laid s.L k x }
  else { s with L := (laid s.L k x).tail, F := keyAt (laid s.L k x) 0, G := true }
/-- How rings stand. -/
structure Rs.ok (s : Rs) : Prop where
  most : 1 ≤ s.M ∧ s.M ≤ 64
  len : s.L.length ≤ s.M
  rise : Rise s.L
  gone : s.G = true → s.L.length = s.M ∧ ∀ p ∈ s.L, s.F < p.1
  none_ : s.G = false → s.F = 0
  wf : (∀ p ∈ s.L, -9223372036854775808 ≤ p.1 ∧ p.1 ≤ 9223372036854775807) ∧ -9223372036854775808 ≤ s.F ∧ s.F ≤ 9223372036854775807
def emptyR (M : Nat) : Rs := ⟨M, [], 0, false⟩
theorem empty_ok {M : Nat} (h : 1 ≤ M ∧ M ≤ 64) : (emptyR M).ok :=
  ⟨h, by simp [emptyR], List.Pairwise.nil, fun h => by simp [emptyR] at h, fun _ => rfl, fun p hp => by simp [emptyR] at hp, by simp [emptyR], by simp [emptyR]⟩
/-- The numbers that are there when one is laid: it, and the elder ones. -/
theorem mem_laid {L : List Pr} {k : Int} {x : Value} {p : Pr} : p ∈ laid L k x ↔ p = (k, x) ∨ p ∈ L := by
  unfold laid
  rw [List.mem_append, List.mem_cons]
  constructor
  · rintro (h | h | h)
    · exact Or.inr (List.mem_of_mem_take h)
    · exact Or.inl h
    · exact Or.inr (List.mem_of_mem_drop h)
  · rintro (h | h)
    · exact Or.inr (Or.inl h)
    · have e := List.take_append_drop (untl L k) L
      rw [← e, List.mem_append] at h
      rcases h with h | h
      · exact Or.inl h
      · exact Or.inr (Or.inr h)
theorem rise_take {L : List Pr} (h : Rise L) (n : Nat) : Rise (L.take n) := h.sublist (List.take_sublist n L)
theorem rise_drop {L : List Pr} (h : Rise L) (n : Nat) : Rise (L.drop n) := h.sublist (List.drop_sublist n L)
theorem take_le {L : List Pr} (hr : Rise L) (k : Int) : ∀ p ∈ L.take (untl L k), p.1 ≤ k := by
  intro p hp
  obtain ⟨i, hi, rfl⟩ := List.getElem_of_mem hp
  rw [List.length_take] at hi
  have := (untl_iff hr k i (by omega)).1 (by omega)
  rw [List.getElem_take]
  simpa [keyAt, List.getD, show i < L.length by omega] using this
theorem drop_gt {L : List Pr} (hr : Rise L) (k : Int) : ∀ p ∈ L.drop (untl L k), k < p.1 := by
  intro p hp
  obtain ⟨i, hi, rfl⟩ := List.getElem_of_mem hp
  rw [List.length_drop] at hi
  have := mt (untl_iff hr k (untl L k + i) (by omega)).2 (by omega)
  rw [List.getElem_drop]
  have h2 : ¬ (L[untl L k + i]'(by omega)).1 ≤ k := by simpa [keyAt, List.getD, show untl L k + i < L.length by omega] using this
  omega
theorem isAt_iff {L : List Pr} (hr : Rise L) (k : Int) : isAt L k = true ↔ ∃ p ∈ L, p.1 = k := by
  rw [there_iff hr]; simp [isAt]
theorem take_lt {L : List Pr} (hr : Rise L) {k : Int} (h : isAt L k = false) : ∀ p ∈ L.take (untl L k), p.1 < k := by
  intro p hp
  have h1 := take_le hr k p hp
  have h2 : p.1 ≠ k := fun e => by
    have := (isAt_iff hr k).2 ⟨p, List.mem_of_mem_take hp, e⟩
    rw [h] at this; cases this
  omega
theorem rise_laid {L : List Pr} (hr : Rise L) {k : Int} (h : isAt L k = false) (x : Value) : Rise (laid L k x) := by
  unfold laid Rise
  rw [List.pairwise_append, List.pairwise_cons]
  refine ⟨rise_take hr _, ⟨fun q hq => drop_gt hr k q hq, rise_drop hr _⟩, fun p hp q hq => ?_⟩
  have h1 := take_lt hr h p hp
  rcases List.mem_cons.1 hq with rfl | hq
  · exact h1
  · have := drop_gt hr k q hq; omega
theorem keyAt_laid (L : List Pr) (k : Int) (x y : Value) (i : Nat) : keyAt (laid L k x) i = keyAt (laid L k y) i := by
  unfold keyAt laid
  have hl : (L.take (untl L k)).length = untl L k := by have := untl_le L k; simp; omega
  rcases Nat.lt_or_ge i (untl L k) with h | h
  · simp [List.getD, List.getElem?_append_left (show i < (L.take (untl L k)).length by omega)]
  · rw [List.getD, List.getD, List.getElem?_append_right (by omega), List.getElem?_append_right (by omega), hl]
    rcases h' : i - untl L k with _ | j
    · simp
    · simp
theorem tail_mem {L : List Pr} (hr : Rise L) : ∀ p ∈ L.tail, keyAt L 0 < p.1 ∧ p ∈ L := by
  intro p hp
  cases L with
  | nil => simp at hp
  | cons q L => exact ⟨(rise_cons hr).1 p hp, List.mem_cons_of_mem _ hp⟩
/-- Behind Lay a ring stands as rings do. -/
theorem lay_ok {s : Rs} (h : s.ok) {k : Int} (hk : -9223372036854775808 ≤ k ∧ k ≤ 9223372036854775807) (x : Value) : (layS s k x).ok := by
  unfold layS
  by_cases h1 : isAt s.L k = true
  · rw [if_pos h1]; exact h
  rw [if_neg h1]
  have h1' : isAt s.L k = false := by simpa using h1
  by_cases h2 : untl s.L k = 0 ∧ s.L.length = s.M
  · rw [if_pos h2]; exact h
  rw [if_neg h2]
  have hl := laid_len s.L k x
  have hr := rise_laid h.rise h1' x
  have hw : ∀ p ∈ laid s.L k x, -9223372036854775808 ≤ p.1 ∧ p.1 ≤ 9223372036854775807 := fun p hp => by
    rcases mem_laid.1 hp with rfl | hp
    · exact hk
    · exact h.wf.1 p hp
  by_cases h3 : s.L.length < s.M
  · rw [if_pos h3]
    refine ⟨h.most, by show (laid s.L k x).length ≤ s.M; omega, hr, fun hg => ?_, h.none_, hw, h.wf.2⟩
    have := (h.gone hg).1; omega
  · rw [if_neg h3]
    have hlen := h.len
    have hp0 : 0 < (laid s.L k x).length := by omega
    obtain ⟨q, hq, hqk, _⟩ := keyAt_mem hp0
    refine ⟨h.most, by show (laid s.L k x).tail.length ≤ s.M; rw [List.length_tail]; omega, hr.sublist (List.tail_sublist _), fun _ => ⟨by show (laid s.L k x).tail.length = s.M; rw [List.length_tail]; omega, fun p hp => (tail_mem hr p hp).1⟩, fun hg => (by cases hg), fun p hp => hw p (tail_mem hr p hp).2, ?_⟩
    show _ ∧ _
    rw [← hqk]; exact hw q hq
/-- What is found: how many numbers are less. -/
def lessN (L : List Pr) (k : Int) : Nat := L.countP fun p => decide (p.1 < k)
end Go.Proofs.YtlpdhglibgnkoaaGreat

namespace Go.Proofs.YtlpdhglibgnkoaaGreat
open Go.Shelf
def lay_search_ren : Go.Shelf.Ren := ⟨fun | 16 => 65 | n => n, fun | 3 => 3 | 35 => 126 | 4 => 4 | 38 => 57 | n => n, fun | n => n⟩
theorem lay_search : Go.Proofs.SlLaysO.n16 Tryz.prog lay_search_ren := {
  mixed := by kernel_rfl
  f16 := Tryz.func65.trans (congrArg some (by kernel_rfl))
  t3 := Tryz.underlying3
  a3 := Tryz.isAgg3
  z3 := Tryz.sizeOf3
  v3 := Tryz.zeroValue3
  t4 := Tryz.underlying4
  a4 := Tryz.isAgg4
  z4 := Tryz.sizeOf4
  v4 := Tryz.zeroValue4
  t35 := Tryz.underlying126
  a35 := Tryz.isAgg126
  z35 := Tryz.sizeOf126
  v35 := Tryz.zeroValue126
  t38 := Tryz.underlying57
  a38 := Tryz.isAgg57
  z38 := Tryz.sizeOf57
  v38 := Tryz.zeroValue57 }
end Go.Proofs.YtlpdhglibgnkoaaGreat

namespace Go.Proofs.YtlpdhglibgnkoaaGreat
open Go.RowKit
set_option linter.unusedVariables false

/-- The cells of a thing of three cells: two numbers and a row. -/
def pI : Value → Int
  | .int _ n => n
  | _ => 0
def pA : Value → Option Addr
  | .slice a _ _ => a
  | _ => none
def pN : Value → Nat
  | .slice _ n _ => n
  | _ => 0
def pC : Value → Nat
  | .slice _ _ c => c
  | _ => 0
def pAt (k : Nat) : Value → Value
  | .agg xs => xs.toList.getD k (.int .i64 0)
  | _ => .int .i64 0
def t0 (x : Value) : Value := .int .i64 (pI (pAt 0 x))
def t1 (x : Value) : Value := .int .i64 (pI (pAt 1 x))
def t2 (x : Value) : Value := .slice (pA (pAt 2 x)) (pN (pAt 2 x)) (pC (pAt 2 x))
/-- A thing is of three cells. -/
structure Trio (x : Value) : Prop where
  is : x = .agg #[t0 x, t1 x, t2 x]
theorem Trio.c0 {x : Value} (h : Trio x) : (t0 x).oneCell' = true := rfl
theorem Trio.c1 {x : Value} (h : Trio x) : (t1 x).oneCell' = true := rfl
theorem Trio.c2 {x : Value} (h : Trio x) : (t2 x).oneCell' = true := rfl
theorem trio_mk {a b : Int} {ao : Option Addr} {n c : Nat} : Trio (.agg #[.int .i64 a, .int .i64 b, .slice ao n c]) := ⟨rfl⟩
/-- What a thing is, with letters. -/
theorem Trio.letters {x : Value} (h : Trio x) : ∃ a b ao n c, x = .agg #[.int .i64 a, .int .i64 b, .slice ao n c] ∧ t0 x = .int .i64 a ∧ t1 x = .int .i64 b ∧ t2 x = .slice ao n c := ⟨_, _, _, _, _, h.is, rfl, rfl, rfl⟩
/-- The cells of a pair. -/
def prC (p : Pr) : List Value := [.int .i64 p.1, t0 p.2, t1 p.2, t2 p.2]
theorem prC_one {p : Pr} (h : Trio p.2) : ∀ u ∈ prC p, u.oneCell' = true := by
  intro u hu
  unfold prC at hu
  simp only [List.mem_cons, List.not_mem_nil, or_false] at hu
  rcases hu with rfl | rfl | rfl | rfl
  · rfl
  · exact h.c0
  · exact h.c1
  · exact h.c2
/-- The cells of pairs. -/
def prs (L : List Pr) : List Value := L.flatMap prC
theorem prC_len (p : Pr) : (prC p).length = 4 := rfl
theorem prs_nil : prs [] = [] := rfl
theorem prs_cons (p : Pr) (L : List Pr) : prs (p :: L) = .int .i64 p.1 :: t0 p.2 :: t1 p.2 :: t2 p.2 :: prs L := rfl
theorem prs_app (L M : List Pr) : prs (L ++ M) = prs L ++ prs M := by unfold prs; simp
theorem prs_len : ∀ L : List Pr, (prs L).length = L.length * 4
  | [] => rfl
  | p :: L => by rw [prs_cons]; simp [prs_len L]; omega
theorem prs_take : ∀ (L : List Pr) (i : Nat), (prs L).take (i * 4) = prs (L.take i)
  | [], i => by simp [prs]
  | p :: L, 0 => by simp [prs]
  | p :: L, i + 1 => by rw [show (i + 1) * 4 = i * 4 + 4 by omega, prs_cons, List.take_succ_cons, List.take_succ_cons, List.take_succ_cons, List.take_succ_cons, prs_take L i, List.take_succ_cons, prs_cons]
theorem prs_drop : ∀ (L : List Pr) (i : Nat), (prs L).drop (i * 4) = prs (L.drop i)
  | [], i => by simp [prs]
  | p :: L, 0 => by simp [prs]
  | p :: L, i + 1 => by rw [show (i + 1) * 4 = i * 4 + 4 by omega, prs_cons, List.drop_succ_cons, List.drop_succ_cons, List.drop_succ_cons, List.drop_succ_cons, prs_drop L i, List.drop_succ_cons]
/-- Things are of three cells. -/
def Ones (L : List Pr) : Prop := ∀ p ∈ L, Trio p.2
theorem Ones.cells {L : List Pr} (h : Ones L) : ∀ u ∈ prs L, u.oneCell' = true := by
  intro u hu
  unfold prs at hu
  rw [List.mem_flatMap] at hu
  obtain ⟨p, hp, hu⟩ := hu
  exact prC_one (h p hp) u hu
theorem Ones.take {L : List Pr} (h : Ones L) (i : Nat) : Ones (L.take i) := fun p hp => h p (List.mem_of_mem_take hp)
theorem Ones.drop {L : List Pr} (h : Ones L) (i : Nat) : Ones (L.drop i) := fun p hp => h p (List.mem_of_mem_drop hp)
theorem Ones.tail {L : List Pr} (h : Ones L) : Ones L.tail := fun p hp => h p (List.mem_of_mem_tail hp)
theorem Ones.laid {L : List Pr} (h : Ones L) (k : Int) {x : Value} (hx : Trio x) : Ones (laid L k x) := fun p hp => by
  rcases mem_laid.1 hp with rfl | hp
  · exact hx
  · exact h p hp
theorem prs_key {L : List Pr} {i : Nat} (h : i < L.length) : (prs L)[i * 4]? = some (.int .i64 (keyAt L i)) := by
  have e := prs_drop L i
  have h1 : (prs L)[i * 4]? = ((prs L).drop (i * 4))[0]? := by simp
  rw [h1, e, List.drop_eq_getElem_cons h, prs_cons]
  simp [keyAt, List.getD, h]
theorem prs_t0 {L : List Pr} {i : Nat} (h : i < L.length) : (prs L)[i * 4 + 1]? = some (t0 (thing L i)) := by
  have e := prs_drop L i
  have h1 : (prs L)[i * 4 + 1]? = ((prs L).drop (i * 4))[1]? := by simp
  rw [h1, e, List.drop_eq_getElem_cons h, prs_cons]
  simp [thing, List.getD, h]
theorem prs_t1 {L : List Pr} {i : Nat} (h : i < L.length) : (prs L)[i * 4 + 2]? = some (t1 (thing L i)) := by
  have e := prs_drop L i
  have h1 : (prs L)[i * 4 + 2]? = ((prs L).drop (i * 4))[2]? := by simp
  rw [h1, e, List.drop_eq_getElem_cons h, prs_cons]
  simp [thing, List.getD, h]
theorem prs_t2 {L : List Pr} {i : Nat} (h : i < L.length) : (prs L)[i * 4 + 3]? = some (t2 (thing L i)) := by
  have e := prs_drop L i
  have h1 : (prs L)[i * 4 + 3]? = ((prs L).drop (i * 4))[3]? := by simp
  rw [h1, e, List.drop_eq_getElem_cons h, prs_cons]
  simp [thing, List.getD, h]

/-- Cells laid over others. -/
def layC (cur : Array Value) : Nat → List Value → Array Value
  | _, [] => cur
  | o, v :: r => layC (cur.setIfInBounds o v) (o + 1) r
theorem layC_size : ∀ (vs : List Value) (cur : Array Value) (o : Nat), (layC cur o vs).size = cur.size
  | [], _, _ => rfl
  | v :: r, cur, o => by rw [layC, layC_size r]; simp
theorem layC_list : ∀ (vs : List Value) (cur : Array Value) (o : Nat), o + vs.length ≤ cur.size → (layC cur o vs).toList = cur.toList.take o ++ vs ++ cur.toList.drop (o + vs.length)
  | [], cur, o, _ => by simp [layC]
  | v :: r, cur, o, h => by
    have h' : o + 1 + r.length ≤ cur.size := by simp at h; omega
    rw [layC, layC_list r _ _ (by simpa using h'), Array.toList_setIfInBounds]
    have e1 : (cur.toList.set o v).take (o + 1) = cur.toList.take o ++ [v] := by
      rw [List.take_set, List.take_succ_eq_append_getElem (by simpa using (by omega : o < cur.size)), List.set_append_right _ _ (by simp; omega)]
      simp [show min o cur.size = o by omega]
    have e2 : (cur.toList.set o v).drop (o + 1 + r.length) = cur.toList.drop (o + (v :: r).length) := by
      rw [List.drop_set_of_lt (by omega)]
      congr 1
      simp; omega
    rw [e1, e2]; simp
theorem heap_setCells_same {e : TypeId} (g : Nat) : ∀ (vs : List Value) (o : Nat) (w : World) (cur : Array Value), w.heap[g]? = some (.cells cur e (0, 0)) → (w.setCells g o vs).heap[g]? = some (.cells (layC cur o vs) e (0, 0))
  | [], _, _, _, h => h
  | v :: r, o, w, cur, h => heap_setCells_same g r (o + 1) _ _ (heap_setCell_same w g o cur e v h)
theorem grown_setCells (g : Nat) (vs : List Value) (o : Nat) (w : World) : w.grownBy (w.setCells g o vs) (some g) where
  os := World.os_setCells w g o vs
  tape := by
    revert o w
    induction vs with
    | nil => intro o w; rfl
    | cons v r ih => intro o w; exact ih (o + 1) _
  output := World.output_setCells w g o vs
  size := by
    have : ∀ (vs : List Value) (o : Nat) (w : World), (w.setCells g o vs).heap.size = w.heap.size := by
      intro vs
      induction vs with
      | nil => intro o w; rfl
      | cons v r ih => intro o w; rw [World.setCells, ih]; simp
    rw [this]; exact Nat.le_refl _
  block := fun k hk hne => World.heap_setCells_other w g o vs hk (fun e => hne (by rw [e]))
theorem grown_trans {w w' w'' : World} {r : Option Nat} (h : w.grownBy w' r) (h' : w'.grownBy w'' r) : w.grownBy w'' r :=
  ⟨h'.os.trans h.os, h'.tape.trans h.tape, h'.output.trans h.output, Nat.le_trans h.size h'.size, fun k hk hne => (h'.block k (Nat.lt_of_lt_of_le hk h.size) hne).trans (h.block k hk hne)⟩
theorem grown_drew {w w' : World} {r : Option Nat} (h : w.grownBy w' r) : w.grownBy w'.drew r := ⟨h.os, h.tape, h.output, h.size, h.block⟩
theorem grown_refl (w : World) (r : Option Nat) : w.grownBy w r := ⟨rfl, rfl, rfl, Nat.le_refl _, fun _ _ _ => rfl⟩

/-- A value that a call owns, of these pairs (their type: e). -/
def OwnP (e : TypeId) (w : World) (B : Nat) (v : Value) (L : List Pr) : Prop := w.ownsRow B e 4 v L.length (prs L)
section
variable {e : TypeId} {w w' : World} {B : Nat} {v : Value} {L : List Pr}
theorem OwnP.nil (w : World) (B : Nat) : OwnP e w B (.slice none 0 0) [] := World.ownsRow_nil w B _ _
theorem OwnP.lt (h : OwnP e w B v L) : ∀ k, v.ownBlock = some k → B ≤ k ∧ k < w.heap.size := World.ownsRow.lt h
theorem OwnP.kept (h : OwnP e w B v L) {r : Option Nat} (hg : w.grownBy w' r) (hr : v.ownBlock = none ∨ v.ownBlock ≠ r) : OwnP e w' B v L := World.ownsRow.kept h hg hr
theorem OwnP.below (h : OwnP e w B v L) (hb : Below w.heap.size w w') : OwnP e w' B v L := by
  refine ⟨h.1, ?_⟩
  rcases h.2 with hn | ⟨g, cap, cur, hv, hB, hg, rest⟩
  · exact Or.inl hn
  · exact Or.inr ⟨g, cap, cur, hv, hB, (hb.block g (Array.getElem?_eq_some_iff.1 hg).1).trans hg, rest⟩
theorem OwnP.drew (h : OwnP e w B v L) : OwnP e w.drew B v L := h
theorem OwnP.form (h : OwnP e w B v L) : ∃ ao cap, v = .slice ao L.length cap ∧ L.length ≤ cap ∧ cap ≤ 9223372036854775807 ∧ (ao = none → cap = 0) := by
  rcases h.2 with ⟨rfl, h0⟩ | ⟨g, cap, cur, hv, hb, hg, hc, hm, _⟩
  · exact ⟨none, 0, by rw [h0], by omega, by omega, fun _ => rfl⟩
  · exact ⟨_, cap, hv, hc, hm, fun h => by simp at h⟩
theorem OwnP.some_ (h : OwnP e w B v L) (hl : L ≠ []) : ∃ g cap cur, v = .slice (some ⟨g, 0, none⟩) L.length cap ∧ B ≤ g ∧ w.heap[g]? = some (.cells cur e (0, 0)) ∧ L.length ≤ cap ∧ cap ≤ 9223372036854775807 ∧ cur.size = cap * 4 ∧ cur.toList.take (L.length * 4) = prs L := by
  have hp := List.length_pos_iff.2 hl
  rcases h.2 with ⟨_, h0⟩ | h
  · omega
  · exact h
theorem ownP_row {g cap : Nat} {cur : Array Value} (hg : w.heap[g]? = some (.cells cur e (0, 0))) (hB : B ≤ g) (hc : L.length ≤ cap) (hm : cap ≤ 9223372036854775807) (hs : cur.size = cap * 4) (ht : cur.toList.take (L.length * 4) = prs L) :
    OwnP e w B (.slice (some ⟨g, 0, none⟩) L.length cap) L := ⟨prs_len L, Or.inr ⟨g, cap, cur, rfl, hB, hg, hc, hm, hs, ht⟩⟩
theorem row_cell {g : Nat} {cur : Array Value} (hg : w.heap[g]? = some (.cells cur e (0, 0))) (o : Nat) : w.cell? ⟨g, o, none⟩ = cur[o]? := cell_of_row w g o cur e (0, 0) hg
theorem row_froz {g : Nat} {cur : Array Value} (hg : w.heap[g]? = some (.cells cur e (0, 0))) (o : Nat) : w.frozen? ⟨g, o, none⟩ = false := by
  simp [World.frozen?, hg]
theorem row_at {g cap : Nat} {cur : Array Value} (hg : w.heap[g]? = some (.cells cur e (0, 0))) (hc : L.length ≤ cap) (hs : cur.size = cap * 4) (ht : cur.toList.take (L.length * 4) = prs L) (j : Nat) (u : Value) (h : (prs L)[j]? = some u) : w.cell? ⟨g, j, none⟩ = some u := by
  have hj : j < L.length * 4 := by have := (List.getElem?_eq_some_iff.1 h).1; rwa [prs_len] at this
  rw [row_cell hg, ← h, ← ht, List.getElem?_take, if_pos hj]
  simp
theorem OwnP.key (h : OwnP e w B v L) {g n cap : Nat} (hv : v = .slice (some ⟨g, 0, none⟩) n cap) {i : Nat} (hi : i < L.length) : w.cell? ⟨g, i * 4, none⟩ = some (.int .i64 (keyAt L i)) := by
  obtain ⟨g', cap', cur, hv', hB, hg, hc, hm, hs, ht⟩ := h.some_ (by intro h; rw [h] at hi; simp at hi)
  rw [hv] at hv'; injection hv' with h1 _ _; injection h1 with h1; injection h1 with h1 _ _; subst h1
  exact row_at hg hc hs ht _ _ (prs_key hi)
theorem OwnP.th0 (h : OwnP e w B v L) {g n cap : Nat} (hv : v = .slice (some ⟨g, 0, none⟩) n cap) {i : Nat} (hi : i < L.length) : w.cell? ⟨g, i * 4 + 1, none⟩ = some (t0 (thing L i)) := by
  obtain ⟨g', cap', cur, hv', hB, hg, hc, hm, hs, ht⟩ := h.some_ (by intro h; rw [h] at hi; simp at hi)
  rw [hv] at hv'; injection hv' with h1 _ _; injection h1 with h1; injection h1 with h1 _ _; subst h1
  exact row_at hg hc hs ht _ _ (prs_t0 hi)
theorem OwnP.th1 (h : OwnP e w B v L) {g n cap : Nat} (hv : v = .slice (some ⟨g, 0, none⟩) n cap) {i : Nat} (hi : i < L.length) : w.cell? ⟨g, i * 4 + 2, none⟩ = some (t1 (thing L i)) := by
  obtain ⟨g', cap', cur, hv', hB, hg, hc, hm, hs, ht⟩ := h.some_ (by intro h; rw [h] at hi; simp at hi)
  rw [hv] at hv'; injection hv' with h1 _ _; injection h1 with h1; injection h1 with h1 _ _; subst h1
  exact row_at hg hc hs ht _ _ (prs_t1 hi)
theorem OwnP.th2 (h : OwnP e w B v L) {g n cap : Nat} (hv : v = .slice (some ⟨g, 0, none⟩) n cap) {i : Nat} (hi : i < L.length) : w.cell? ⟨g, i * 4 + 3, none⟩ = some (t2 (thing L i)) := by
  obtain ⟨g', cap', cur, hv', hB, hg, hc, hm, hs, ht⟩ := h.some_ (by intro h; rw [h] at hi; simp at hi)
  rw [hv] at hv'; injection hv' with h1 _ _; injection h1 with h1; injection h1 with h1 _ _; subst h1
  exact row_at hg hc hs ht _ _ (prs_t2 hi)
end
theorem take_app_len {α : Type} (a b : List α) (n : Nat) (h : a.length = n) : (a ++ b).take n = a := by subst h; simp
/-- Cells moved on by a place, and one laid between. -/
theorem laid_row {e : TypeId} {w : World} {B g cap : Nat} {cur : Array Value} {L : List Pr} (hg : w.heap[g]? = some (.cells cur e (0, 0))) (hB : B ≤ g) (hm : cap ≤ 9223372036854775807) (hs : cur.size = cap * 4)
    (hc : L.length + 1 ≤ cap) (ht : cur.toList.take (L.length * 4) = prs L) (i : Nat) (hi : i ≤ L.length) (p : Pr) (W W1 : World) (hW1 : W1 = w.setCells g ((i + 1) * 4) (prs (L.drop i))) (W2 : World) (h12 : W2.heap = W1.heap) (hW : W = W2.setCells g (i * 4) (prC p)) :
    OwnP e W B (.slice (some ⟨g, 0, none⟩) (L.length + 1) cap) (L.take i ++ p :: L.drop i) := by
  have h1 := heap_setCells_same g (prs (L.drop i)) ((i + 1) * 4) w cur hg
  rw [← hW1] at h1
  rw [← h12] at h1
  have h2 := heap_setCells_same g (prC p) (i * 4) W2 _ h1
  rw [← hW] at h2
  have hl : (L.take i ++ p :: L.drop i).length = L.length + 1 := by simp; omega
  have hlt : (L.take i).length = i := by simp; omega
  have hld : (L.drop i).length = L.length - i := by simp
  have hd : (prs (L.drop i)).length = (L.length - i) * 4 := by rw [prs_len, hld]
  have := ownP_row (L := L.take i ++ p :: L.drop i) h2 hB (by omega) hm (by rw [layC_size, layC_size]; exact hs) ?_
  · rw [hl] at this; exact this
  · rw [hl, layC_list _ _ _ (by rw [layC_size, prC_len]; omega), layC_list _ _ _ (by rw [hd]; omega)]
    rw [prs_app, prs_cons]
    have e1 : (cur.toList.take ((i + 1) * 4) ++ prs (L.drop i) ++ cur.toList.drop ((i + 1) * 4 + (prs (L.drop i)).length)).take (i * 4) = prs (L.take i) := by
      rw [List.append_assoc, List.take_append_of_le_length (by simp; omega), List.take_take, ← prs_take, ← ht, List.take_take]
      congr 1
      omega
    have e2 : (cur.toList.take ((i + 1) * 4) ++ prs (L.drop i) ++ cur.toList.drop ((i + 1) * 4 + (prs (L.drop i)).length)).drop (i * 4 + (prC p).length) = prs (L.drop i) ++ cur.toList.drop ((i + 1) * 4 + (prs (L.drop i)).length) := by
      rw [List.append_assoc, List.drop_append_of_le_length (by simp [prC_len]; omega), List.drop_of_length_le (by simp [prC_len]; omega), List.nil_append]
    rw [e1, e2]
    have : prs (L.take i) ++ prC p ++ (prs (L.drop i) ++ cur.toList.drop ((i + 1) * 4 + (prs (L.drop i)).length)) = (prs (L.take i) ++ .int .i64 p.1 :: t0 p.2 :: t1 p.2 :: t2 p.2 :: prs (L.drop i)) ++ cur.toList.drop ((i + 1) * 4 + (prs (L.drop i)).length) := by simp [prC]
    rw [this]
    exact take_app_len _ _ _ (by simp [prs_len]; omega)
/-- Cells moved back by a place: the first pair goes. -/
theorem tail_row {e : TypeId} {w : World} {B g cap : Nat} {cur : Array Value} {L : List Pr} (hl : L ≠ []) (hg : w.heap[g]? = some (.cells cur e (0, 0))) (hB : B ≤ g) (hm : cap ≤ 9223372036854775807) (hs : cur.size = cap * 4)
    (hc : L.length ≤ cap) (W W1 : World) (hW1 : W1 = w.setCells g 0 (prs L.tail)) (W2 : World) (h12 : W2.heap = W1.heap) (z : List Value) (hz : z.length = 4) (hW : W = W2.setCells g ((L.length - 1) * 4) z) :
    OwnP e W B (.slice (some ⟨g, 0, none⟩) (L.length - 1) cap) L.tail := by
  have hp := List.length_pos_iff.2 hl
  have h1 := heap_setCells_same g (prs L.tail) 0 w cur hg
  rw [← hW1] at h1
  rw [← h12] at h1
  have h2 := heap_setCells_same g z ((L.length - 1) * 4) W2 _ h1
  rw [← hW] at h2
  have ht : L.tail.length = L.length - 1 := List.length_tail
  have hd : (prs L.tail).length = (L.length - 1) * 4 := by rw [prs_len, ht]
  have := ownP_row (L := L.tail) h2 hB (by omega) hm (by rw [layC_size, layC_size]; exact hs) ?_
  · rw [ht] at this; exact this
  · rw [ht, layC_list _ _ _ (by rw [layC_size]; omega), layC_list _ _ _ (by rw [hd]; omega)]
    rw [List.append_assoc, List.take_append_of_le_length (by simp; omega), List.take_take]
    simp only [List.take_zero, List.nil_append]
    rw [Nat.min_self]
    exact take_app_len _ _ _ hd
/-- A new row: cells, a pair laid behind the first i, the others behind it. -/
theorem new_row {e : TypeId} {w : World} {B g cap : Nat} {cur : Array Value} {L : List Pr} (hg : w.heap[g]? = some (.cells cur e (0, 0))) (hB : B ≤ g) (hm : cap ≤ 9223372036854775807) (hs : cur.size = cap * 4)
    (hc : L.length + 1 ≤ cap) (i : Nat) (hi : i ≤ L.length) (ht : cur.toList.take (i * 4) = prs (L.take i)) (p : Pr) (W W1 : World) (hW1 : W1 = w.setCells g (i * 4) (prC p)) (W2 : World) (h12 : W2.heap = W1.heap) (hW : W = W2.setCells g ((i + 1) * 4) (prs (L.drop i))) :
    OwnP e W B (.slice (some ⟨g, 0, none⟩) (L.length + 1) cap) (L.take i ++ p :: L.drop i) := by
  have h1 := heap_setCells_same g (prC p) (i * 4) w cur hg
  rw [← hW1] at h1
  rw [← h12] at h1
  have h2 := heap_setCells_same g (prs (L.drop i)) ((i + 1) * 4) W2 _ h1
  rw [← hW] at h2
  have hl : (L.take i ++ p :: L.drop i).length = L.length + 1 := by simp; omega
  have hld : (L.drop i).length = L.length - i := by simp
  have hlt : (L.take i).length = i := by simp; omega
  have hd : (prs (L.drop i)).length = (L.length - i) * 4 := by rw [prs_len, hld]
  have hpt : (prs (L.take i)).length = i * 4 := by rw [prs_len, hlt]
  have := ownP_row (L := L.take i ++ p :: L.drop i) h2 hB (by omega) hm (by rw [layC_size, layC_size]; exact hs) ?_
  · rw [hl] at this; exact this
  · rw [hl, layC_list _ _ _ (by rw [layC_size]; rw [hd]; omega), layC_list _ _ _ (by rw [prC_len]; omega), ht]
    rw [prs_app, prs_cons]
    have e1 : (prs (L.take i) ++ prC p ++ cur.toList.drop (i * 4 + (prC p).length)).take ((i + 1) * 4) = prs (L.take i) ++ prC p :=
      take_app_len _ _ _ (by simp [hpt, prC_len]; omega)
    rw [e1]
    have : ∀ r : List Value, prs (L.take i) ++ prC p ++ prs (L.drop i) ++ r = (prs (L.take i) ++ .int .i64 p.1 :: t0 p.2 :: t1 p.2 :: t2 p.2 :: prs (L.drop i)) ++ r := fun r => by simp [prC]
    rw [this]
    exact take_app_len _ _ _ (by simp [hpt, hd]; omega)
theorem grown_past {w w' w'' : World} {r : Option Nat} {g : Nat} (h : w.grownBy w' r) (h' : w'.grownBy w'' (some g)) (hg : w.heap.size ≤ g) : w.grownBy w'' r :=
  ⟨h'.os.trans h.os, h'.tape.trans h.tape, h'.output.trans h.output, Nat.le_trans h.size h'.size, fun k hk hne => (h'.block k (Nat.lt_of_lt_of_le hk h.size) (fun e => by injection e with e; omega)).trans (h.block k hk hne)⟩
theorem zeros_len (z : Value) (n : Nat) : (Builtin.zeroCells z.cells n).size = n * z.cells.size := by simp [Builtin.zeroCells]
end Go.Proofs.YtlpdhglibgnkoaaGreat
