/-
  Layer 13 (window): numbers: the last so many; the least and the greatest (no function of the program in sight).
-/
import Derived.Test.YthkffclligcdnaaWn1
import Derived.Sort.Walk0
namespace Go.Proofs.Ythkffclligcdnaa
open Go.RowKit
set_option linter.unusedVariables false

/-- Of the first k, the last M. -/
def lastV {α : Type} (M : Nat) (l : List α) (k : Nat) : List α := (l.take k).drop (k - M)
theorem lastV_len {α : Type} {M k : Nat} {l : List α} (hk : k ≤ l.length) : (lastV M l k).length = min k M := by
  unfold lastV; rw [List.length_drop, List.length_take]; omega
theorem lastV_zero {α : Type} (M : Nat) (l : List α) : lastV M l 0 = [] := by simp [lastV]
theorem lastV_succ {α : Type} {M k : Nat} {l : List α} (hM : 1 ≤ M) (hk : k < l.length) : lastV M l (k + 1) = (if (lastV M l k).length = M then (lastV M l k).tail else lastV M l k) ++ [l[k]] := by
  rw [lastV_len (by omega)]
  unfold lastV
  rw [List.take_succ_eq_append_getElem hk, List.drop_append_of_le_length (by rw [List.length_take]; omega)]
  congr 1
  by_cases h : min k M = M
  · rw [if_pos h, List.tail_drop]; congr 1; omega
  · rw [if_neg h]; congr 1; omega
theorem lastV_add {M k : Nat} {l : List Value} (hM : 1 ≤ M) (hk : k < l.length) : addW ⟨M, lastV M l k⟩ l[k] = ⟨M, lastV M l (k + 1)⟩ := by
  unfold addW; simp only; rw [lastV_succ hM hk]
theorem lastV_map {α β : Type} (f : α → β) (M : Nat) (l : List α) (k : Nat) : lastV M (l.map f) k = (lastV M l k).map f := by
  unfold lastV; rw [← List.map_take, ← List.map_drop]
theorem lastV_at {α : Type} {M k i : Nat} {l : List α} (hk : k ≤ l.length) (hi : i < min k M) : (lastV M l k)[i]? = l[k - M + i]? := by
  unfold lastV; rw [List.getElem?_drop, List.getElem?_take, if_pos (by omega)]
theorem lastV_mem {α : Type} {M k : Nat} {l : List α} {x : α} (h : x ∈ lastV M l k) : x ∈ l := List.mem_of_mem_take (List.mem_of_mem_drop h)

/-- An order. -/
structure Ord' {α : Type} (lt : α → α → Bool) : Prop where
  irr : ∀ a, lt a a = false
  tr : ∀ a b c, lt a b = true → lt b c = true → lt a c = true
def bst {α : Type} (lt : α → α → Bool) (d : α) : List α → α
  | [] => d
  | x :: l => l.foldl (fun a y => if lt y a then y else a) x
theorem bst_le {α : Type} {lt : α → α → Bool} (o : Ord' lt) : ∀ (l : List α) (x : α), (l.foldl (fun a y => if lt y a then y else a) x = x) ∨ lt (l.foldl (fun a y => if lt y a then y else a) x) x = true
  | [], x => Or.inl rfl
  | z :: l, x => by
    rw [List.foldl_cons]
    cases h : lt z x with
    | true =>
      rw [if_pos rfl]
      rcases bst_le o l z with e | e
      · rw [e]; exact Or.inr h
      · exact Or.inr (o.tr _ _ _ e h)
    | false => rw [if_neg (by simp)]; exact bst_le o l x
theorem bst_fold {α : Type} {lt : α → α → Bool} (o : Ord' lt) : ∀ (l : List α) (x : α), (l.foldl (fun a y => if lt y a then y else a) x ∈ x :: l) ∧ ∀ y ∈ x :: l, lt y (l.foldl (fun a y => if lt y a then y else a) x) = false
  | [], x => ⟨by simp, fun y hy => by simp at hy; subst hy; exact o.irr _⟩
  | z :: l, x => by
    rw [List.foldl_cons]
    cases h : lt z x with
    | true =>
      rw [if_pos rfl]
      obtain ⟨h1, h2⟩ := bst_fold o l z
      refine ⟨List.mem_cons_of_mem _ h1, fun y hy => ?_⟩
      rcases List.mem_cons.1 hy with rfl | hy
      · cases hq : lt y (l.foldl (fun a y => if lt y a then y else a) z) with
        | false => rfl
        | true => rw [h2 z List.mem_cons_self |>.symm.trans (o.tr _ _ _ h hq)]
      · exact h2 y hy
    | false =>
      rw [if_neg (by simp)]
      obtain ⟨h1, h2⟩ := bst_fold o l x
      refine ⟨?_, fun y hy => ?_⟩
      · rcases List.mem_cons.1 h1 with e | e
        · rw [e]; exact List.mem_cons_self
        · exact List.mem_cons_of_mem _ (List.mem_cons_of_mem _ e)
      rcases List.mem_cons.1 hy with rfl | hy
      · exact h2 y List.mem_cons_self
      rcases List.mem_cons.1 hy with rfl | hy
      · cases hq : lt y (l.foldl (fun a y => if lt y a then y else a) x) with
        | false => rfl
        | true =>
          rcases bst_le o l x with e' | e'
          · rw [e'] at hq; rw [hq] at h; cases h
          · rw [o.tr _ _ _ hq e'] at h; cases h
      · exact h2 y (List.mem_cons_of_mem _ hy)
theorem bst_mem {α : Type} {lt : α → α → Bool} (o : Ord' lt) {d : α} {l : List α} (h : l ≠ []) : bst lt d l ∈ l := by
  cases l with
  | nil => exact absurd rfl h
  | cons x l => exact (bst_fold o l x).1
theorem bst_no {α : Type} {lt : α → α → Bool} (o : Ord' lt) {d : α} {l : List α} {y : α} (h : y ∈ l) : lt y (bst lt d l) = false := by
  cases l with
  | nil => cases h
  | cons x l => exact (bst_fold o l x).2 y h
/-- Of values that stand for things. -/
theorem best_map {α : Type} (f : α → Value) (lt : α → α → Bool) (LT : Value → Value → Bool) (h : ∀ x y, LT (f x) (f y) = lt x y) (d : α) : ∀ (l : List α), l ≠ [] → best LT (l.map f) = f (bst lt d l) := by
  intro l hl
  cases l with
  | nil => exact absurd rfl hl
  | cons x l =>
    show (l.map f).foldl _ (f x) = f (l.foldl _ x)
    clear hl
    induction l generalizing x with
    | nil => rfl
    | cons y l ih =>
      rw [List.map_cons, List.foldl_cons, List.foldl_cons, h]
      cases lt y x with
      | true => exact ih y
      | false => exact ih x

def ltI : Value → Value → Bool
  | .int _ a, .int _ b => decide (a < b)
  | _, _ => false
def gtI : Value → Value → Bool
  | .int _ a, .int _ b => decide (b < a)
  | _, _ => false
def ltS : Value → Value → Bool
  | .string a, .string b => Op.bytesLess a.toList b.toList
  | _, _ => false
def gtS : Value → Value → Bool
  | .string a, .string b => (!Op.bytesLess a.toList b.toList && !(a.toList == b.toList))
  | _, _ => false
def minI (l : List Int) : Int := bst (fun a b => decide (a < b)) 0 l
def maxI (l : List Int) : Int := bst (fun a b => decide (b < a)) 0 l
theorem ordLt : Ord' (fun a b : Int => decide (a < b)) := ⟨fun a => by simp, fun a b c h1 h2 => by simp at *; omega⟩
theorem ordGt : Ord' (fun a b : Int => decide (b < a)) := ⟨fun a => by simp, fun a b c h1 h2 => by simp at *; omega⟩
theorem minI_mem {l : List Int} (h : l ≠ []) : minI l ∈ l := bst_mem ordLt h
theorem minI_le {l : List Int} {y : Int} (h : y ∈ l) : minI l ≤ y := by have := bst_no ordLt (d := 0) h; simp at this; exact this
theorem maxI_mem {l : List Int} (h : l ≠ []) : maxI l ∈ l := bst_mem ordGt h
theorem maxI_le {l : List Int} {y : Int} (h : y ∈ l) : y ≤ maxI l := by have := bst_no ordGt (d := 0) h; simp at this; exact this
def encI (x : Int) : Value := .int .i64 x
def encS (s : ByteArray) : Value := .string s
theorem best_min {l : List Int} (h : l ≠ []) : best ltI (l.map encI) = .int .i64 (minI l) := best_map encI _ ltI (fun _ _ => rfl) 0 l h
theorem best_max {l : List Int} (h : l ≠ []) : best gtI (l.map encI) = .int .i64 (maxI l) := best_map encI _ gtI (fun _ _ => rfl) 0 l h
theorem maxI_neg {l : List Int} (h : l ≠ []) : maxI (l.map fun x => -x) = -minI l := by
  have h' : (l.map fun x => -x) ≠ [] := by simpa using h
  obtain ⟨y, hy, e⟩ := List.mem_map.1 (maxI_mem h')
  have h1 := minI_le hy
  have h2 := maxI_le (List.mem_map_of_mem (f := fun x => -x) (minI_mem h))
  omega
theorem minI_neg {l : List Int} (h : l ≠ []) : minI (l.map fun x => -x) = -maxI l := by
  have h' : (l.map fun x => -x) ≠ [] := by simpa using h
  obtain ⟨y, hy, e⟩ := List.mem_map.1 (minI_mem h')
  have h1 := maxI_le hy
  have h2 := minI_le (List.mem_map_of_mem (f := fun x => -x) (maxI_mem h))
  omega
theorem min_max {l : List Int} (h : l ≠ []) : minI l ≤ maxI l := maxI_le (minI_mem h)

def sLt (a b : ByteArray) : Bool := Op.bytesLess a.toList b.toList
def sGt (a b : ByteArray) : Bool := (!Op.bytesLess a.toList b.toList && !(a.toList == b.toList))
def minS (l : List ByteArray) : ByteArray := bst sLt ⟨#[]⟩ l
def maxS (l : List ByteArray) : ByteArray := bst sGt ⟨#[]⟩ l
theorem bl_irr : ∀ a : List UInt8, Op.bytesLess a a = false
  | [] => rfl
  | x :: a => by simp [Op.bytesLess, bl_irr a]
theorem bl_tr : ∀ a b c : List UInt8, Op.bytesLess a b = true → Op.bytesLess b c = true → Op.bytesLess a c = true
  | _, [], _, h, _ => by simp [Op.bytesLess] at h
  | _, _ :: _, [], _, h => by simp [Op.bytesLess] at h
  | [], _ :: _, _ :: _, _, _ => by simp [Op.bytesLess]
  | x :: a, y :: b, z :: c, h1, h2 => by
    simp only [Op.bytesLess, Bool.or_eq_true, Bool.and_eq_true, decide_eq_true_eq, beq_iff_eq, UInt8.lt_iff_toNat_lt, ← UInt8.toNat_inj] at h1 h2 ⊢
    rcases h1 with h1 | ⟨e1, h1⟩ <;> rcases h2 with h2 | ⟨e2, h2⟩
    · left; omega
    · left; omega
    · left; omega
    · right; exact ⟨by omega, bl_tr a b c h1 h2⟩
theorem bl_tot : ∀ a b : List UInt8, Op.bytesLess a b = false → Op.bytesLess b a = false → a = b
  | [], [], _, _ => rfl
  | [], _ :: _, h, _ => by simp [Op.bytesLess] at h
  | _ :: _, [], _, h => by simp [Op.bytesLess] at h
  | x :: a, y :: b, h1, h2 => by
    simp only [Op.bytesLess, Bool.or_eq_false_iff, Bool.and_eq_false_iff, decide_eq_false_iff_not, beq_eq_false_iff_ne, ne_eq, UInt8.lt_iff_toNat_lt, ← UInt8.toNat_inj] at h1 h2
    have e : x = y := by rw [← UInt8.toNat_inj]; omega
    subst e
    rw [bl_tot a b (by rcases h1.2 with h | h; exact absurd rfl h; exact h) (by rcases h2.2 with h | h; exact absurd rfl h; exact h)]
theorem sGt_eq (a b : ByteArray) : sGt a b = sLt b a := by
  unfold sGt sLt
  cases h1 : Op.bytesLess a.toList b.toList with
  | true =>
    cases h2 : Op.bytesLess b.toList a.toList with
    | true => have := bl_tr _ _ _ h1 h2; rw [bl_irr] at this; cases this
    | false => rfl
  | false =>
    cases h2 : Op.bytesLess b.toList a.toList with
    | true =>
      have : (a.toList == b.toList) = false := by
        cases h3 : (a.toList == b.toList) with
        | false => rfl
        | true => rw [eq_of_beq h3, bl_irr] at h2; cases h2
      rw [this]; rfl
    | false => rw [bl_tot _ _ h1 h2]; simp
theorem ordSl : Ord' sLt := ⟨fun a => bl_irr _, fun a b c => bl_tr _ _ _⟩
theorem ordSg : Ord' sGt := ⟨fun a => by rw [sGt_eq]; exact bl_irr _, fun a b c h1 h2 => by rw [sGt_eq] at *; exact bl_tr _ _ _ h2 h1⟩
theorem best_minS {l : List ByteArray} (h : l ≠ []) : best ltS (l.map encS) = .string (minS l) := best_map encS sLt ltS (fun _ _ => rfl) ⟨#[]⟩ l h
theorem best_maxS {l : List ByteArray} (h : l ≠ []) : best gtS (l.map encS) = .string (maxS l) := best_map encS sGt gtS (fun _ _ => rfl) ⟨#[]⟩ l h
theorem minS_mem {l : List ByteArray} (h : l ≠ []) : minS l ∈ l := bst_mem ordSl h
theorem maxS_mem {l : List ByteArray} (h : l ≠ []) : maxS l ∈ l := bst_mem ordSg h
theorem minS_le {l : List ByteArray} {y : ByteArray} (h : y ∈ l) : sLt y (minS l) = false := bst_no ordSl h
theorem maxS_le {l : List ByteArray} {y : ByteArray} (h : y ∈ l) : sGt y (maxS l) = false := bst_no ordSg h
end Go.Proofs.Ythkffclligcdnaa
