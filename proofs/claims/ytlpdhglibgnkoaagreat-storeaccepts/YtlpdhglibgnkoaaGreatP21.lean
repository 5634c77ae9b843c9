/-
  Texts Dl2, Dl3, Dl4 in one.
-/
import Derived.Maps.RangeWalk
import Derived.Test.YtlpdhglibgnkoaaGreatP20
namespace Go.Proofs.YtlpdhglibgnkoaaGreat
open Go.RowKit
set_option linter.unusedVariables false

def isO {α : Type} : Option α → Bool
  | some _ => true
  | none => false
theorem rise_mono : ∀ {L : List En} {a b : Int}, a ≤ b → rise b L → rise a L
  | [], _, _, _, _ => trivial
  | e :: L, a, b, h, h1 => ⟨by have := h1.1; omega, h1.2⟩
theorem find_low : ∀ {L : List En} {a id : Int}, rise a L → id ≤ a → findE id L = none
  | [], _, _, _, _ => rfl
  | e :: L, a, id, h, hid => by
    have h1 := h.1
    unfold findE
    rw [if_neg (by omega)]
    exact find_low h.2.2 (by omega)
theorem find_i : ∀ {L : List En} {id : Int} {x : En}, findE id L = some x → x.i = id ∧ x ∈ L
  | [], _, _, h => by cases h
  | e :: L, id, x, h => by
    unfold findE at h
    split at h
    · cases h
      exact ⟨by assumption, by simp⟩
    · have := find_i h
      exact ⟨this.1, by simp [this.2]⟩
theorem rise_lt : ∀ {L : List En} {a : Int}, rise a L → ∀ x ∈ L, a < x.i ∧ x.i ≤ 65535
  | [], _, _, _, hx => by cases hx
  | e :: L, a, h, x, hx => by
    rcases List.mem_cons.1 hx with rfl | hx
    · exact ⟨h.1, h.2.1⟩
    · have := rise_lt h.2.2 x hx
      have := h.1
      omega
theorem find_mem : ∀ {L : List En} {a : Int}, rise a L → ∀ x ∈ L, findE x.i L = some x
  | [], _, _, _, hx => by cases hx
  | e :: L, a, h, x, hx => by
    unfold findE
    rcases List.mem_cons.1 hx with rfl | hx
    · rw [if_pos rfl]
    · have := (rise_lt h.2.2 x hx).1
      rw [if_neg (by omega)]
      exact find_mem h.2.2 x hx
theorem rise_pair : ∀ {L : List En} {a : Int}, rise a L → L.Pairwise (fun x y => x.i < y.i)
  | [], _, _ => List.Pairwise.nil
  | e :: L, a, h => List.pairwise_cons.2 ⟨fun x hx => (rise_lt h.2.2 x hx).1, rise_pair h.2.2⟩

/-! an entity put, or taken -/
def ins (e : En) : List En → List En
  | [] => [e]
  | x :: M => if x.i < e.i then x :: ins e M else if x.i = e.i then e :: M else e :: x :: M
def del (id : Int) : List En → List En
  | [] => []
  | x :: M => if x.i = id then M else x :: del id M
theorem find_ins (e : En) (id : Int) : ∀ M, findE id (ins e M) = if id = e.i then some e else findE id M
  | [] => by
    unfold ins findE
    by_cases h : id = e.i
    · rw [if_pos h.symm, if_pos h]
    · rw [if_neg (fun q => h q.symm), if_neg h]; rfl
  | x :: M => by
    have ih := find_ins e id M
    unfold ins
    split
    · rename_i h1
      unfold findE
      rw [ih]
      by_cases h : x.i = id
      · rw [if_pos h, if_neg (by omega), if_pos h]
      · rw [if_neg h]
        by_cases h2 : id = e.i
        · rw [if_pos h2, if_pos h2]
        · rw [if_neg h2, if_neg h2, if_neg h]
    · rename_i h1
      split
      · rename_i h2
        by_cases h : id = e.i
        · rw [if_pos h]; unfold findE; rw [if_pos h.symm]
        · rw [if_neg h]
          show (if e.i = id then _ else _) = (if x.i = id then _ else _)
          rw [if_neg (fun q => h q.symm), if_neg (by omega)]
      · by_cases h : id = e.i
        · rw [if_pos h]; unfold findE; rw [if_pos h.symm]
        · rw [if_neg h]
          show (if e.i = id then _ else _) = _
          rw [if_neg (fun q => h q.symm)]
theorem rise_ins {e : En} (he : e.i ≤ 65535) : ∀ {M : List En} {a : Int}, rise a M → a < e.i → rise a (ins e M)
  | [], a, _, h => ⟨h, he, trivial⟩
  | x :: M, a, h, hae => by
    unfold ins
    split
    · exact ⟨h.1, h.2.1, rise_ins he h.2.2 (by omega)⟩
    · split
      · rename_i h2
        exact ⟨hae, he, by rw [← h2]; exact h.2.2⟩
      · exact ⟨hae, he, by omega, h.2.1, h.2.2⟩
theorem len_ins {e : En} : ∀ {M : List En} {a : Int}, rise a M → (ins e M).length = if isO (findE e.i M) = true then M.length else M.length + 1
  | [], _, _ => rfl
  | x :: M, a, h => by
    have ih := len_ins (e := e) h.2.2
    unfold ins findE
    by_cases h1 : x.i < e.i
    · have hn : ¬ x.i = e.i := by omega
      rw [if_pos h1, if_neg hn, List.length_cons, ih]
      split <;> simp
    · rw [if_neg h1]
      by_cases h2 : x.i = e.i
      · rw [if_pos h2, if_pos h2]; rfl
      · rw [if_neg h2, if_neg h2, find_low h.2.2 (by omega)]
        simp [isO]
theorem find_del (k id : Int) : ∀ {M : List En} {a : Int}, rise a M → findE id (del k M) = if id = k then none else findE id M
  | [], _, _ => by unfold del findE; split <;> rfl
  | x :: M, a, h => by
    have ih := find_del k id h.2.2
    unfold del
    split
    · rename_i h1
      by_cases h2 : id = k
      · rw [if_pos h2]; exact find_low h.2.2 (by omega)
      · rw [if_neg h2]
        show _ = (if x.i = id then _ else _)
        rw [if_neg (by omega)]
    · rename_i h1
      show (if x.i = id then _ else _) = _
      rw [ih]
      by_cases h2 : id = k
      · rw [if_neg (by omega), if_pos h2, if_pos h2]
      · rw [if_neg h2, if_neg h2]; rfl
theorem rise_del (k : Int) : ∀ {M : List En} {a : Int}, rise a M → rise a (del k M)
  | [], _, _ => trivial
  | x :: M, a, h => by
    unfold del
    split
    · exact rise_mono (by have := h.1; omega) h.2.2
    · exact ⟨h.1, h.2.1, rise_del k h.2.2⟩
theorem len_del (k : Int) : ∀ (M : List En), (del k M).length + (if isO (findE k M) = true then 1 else 0) = M.length
  | [] => rfl
  | x :: M => by
    have ih := len_del k M
    unfold del findE
    by_cases h : x.i = k
    · rw [if_pos h, if_pos h]; rfl
    · rw [if_neg h, if_neg h, List.length_cons, List.length_cons]; omega
/-! what one record makes -/
def doR (M : List En) (r : Rc) : Option (List En) :=
  match findE r.i M with
  | none => if r.k = 0 then some (ins (newE r) M) else none
  | some x => if r.k = 0 then none else if r.k = 2 then some (del r.i M) else some (ins (appN x r) M)
def doAll : List En → List Rc → Option (List En)
  | M, [] => some M
  | M, r :: rs => match doR M r with
    | none => none
    | some M' => doAll M' rs
theorem app_same {x : En} {r : Rc} (hc : chk r = 0) (hi : r.i = x.i) (h0 : r.k ≠ 0) (h2 : r.k ≠ 2) : appE x r = 0 ∧ (appN x r).i = r.i := by
  have e : appE x r = 0 := by unfold appE; rw [if_pos hc, if_neg (by omega)]
  refine ⟨e, ?_⟩
  unfold appN
  rw [if_pos e, hi]
  split <;> rfl
/-- Records that may be, of rising Ids. -/
def asc : Int → List Rc → Prop
  | _, [] => True
  | last, r :: rs => last < r.i ∧ r.i ≤ 65535 ∧ chk r = 0 ∧ asc r.i rs
theorem asc_lt : ∀ {R : List Rc} {a : Int}, asc a R → ∀ r ∈ R, a < r.i ∧ r.i ≤ 65535 ∧ chk r = 0
  | [], _, _, _, hr => by cases hr
  | s :: R, a, h, r, hr => by
    rcases List.mem_cons.1 hr with rfl | hr
    · exact ⟨h.1, h.2.1, h.2.2.1⟩
    · have h2 := asc_lt h.2.2.2 r hr
      have h3 := h.1
      exact ⟨by omega, h2.2⟩
theorem chk_in {r : Rc} (h : chk r = 0) : 0 ≤ r.k ∧ r.k < 4 ∧ 0 ≤ r.i ∧ r.i ≤ 65535 := by
  unfold chk at h
  split at h
  · omega
  · split at h
    · omega
    · omega
theorem fir_asc : ∀ {R : List Rc} {a : Int}, firE a R = 0 → asc a R
  | [], _, _ => trivial
  | r :: R, a, h => by
    have h' : (if wrE r a = 0 then firE r.i R else wrE r a) = 0 := h
    by_cases hw : wrE r a = 0
    · rw [if_pos hw] at h'
      have h1 := wrE_ok hw
      exact ⟨h1.2.2, (chk_in h1.1).2.2.2, h1.1, fir_asc h'⟩
    · rw [if_neg hw] at h'; exact absurd h' hw
theorem do_cons {x : En} {M : List En} {r : Rc} (hc : chk r = 0) (h : x.i < r.i) : doR (x :: M) r = consO x (doR M r) := by
  have e : findE r.i (x :: M) = findE r.i M := by show (if x.i = r.i then _ else _) = _; rw [if_neg (by omega)]
  unfold doR
  rw [e]
  cases hf : findE r.i M with
  | none =>
    dsimp only
    split
    · show some (if x.i < r.i then x :: ins (newE r) M else _) = _
      rw [if_pos h]; rfl
    · rfl
  | some y =>
    dsimp only
    split
    · rfl
    · split
      · show some (if x.i = r.i then M else x :: del r.i M) = _
        rw [if_neg (by omega)]; rfl
      · rename_i h0 h2
        have hy := (app_same (x := y) hc (find_i hf).1.symm h0 h2).2
        show some (if x.i < (appN y r).i then x :: ins (appN y r) M else _) = _
        rw [if_pos (by omega)]; rfl
theorem all_cons : ∀ {R : List Rc} {x : En} {M : List En}, (∀ r ∈ R, x.i < r.i ∧ chk r = 0) → doAll (x :: M) R = consO x (doAll M R)
  | [], _, _, _ => rfl
  | r :: R, x, M, h => by
    have h1 := h r (by simp)
    unfold doAll
    rw [do_cons h1.2 h1.1]
    cases doR M r with
    | none => rfl
    | some M' => exact all_cons (fun s hs => h s (by simp [hs]))
theorem apl_allN : ∀ (n : Nat) (M : List En) (R : List Rc) (a : Int), M.length + R.length < n → rise a M → asc a R → apl M R = doAll M R
  | 0, _, _, _, h, _, _ => absurd h (Nat.not_lt_zero _)
  | n + 1, M, [], a, _, _, _ => by rw [apl_nil]; rfl
  | n + 1, [], r :: R, a, hn, _, hr => by
    have ih := apl_allN n [] R r.i (by simp at hn ⊢; omega) trivial hr.2.2.2
    rw [apl_nc]
    unfold doAll doR
    dsimp only [findE]
    split
    · show consO (newE r) (apl [] R) = doAll [newE r] R
      rw [ih, all_cons (fun s hs => ⟨(asc_lt hr.2.2.2 s hs).1, (asc_lt hr.2.2.2 s hs).2.2⟩)]
    · rfl
  | n + 1, x :: M, r :: R, a, hn, hm, hr => by
    simp only [List.length_cons] at hn
    have hR : ∀ s ∈ r :: R, r.i ≤ s.i ∧ chk s = 0 := fun s hs => by
      rcases List.mem_cons.1 hs with rfl | hs
      · exact ⟨Int.le_refl _, hr.2.2.1⟩
      · have := asc_lt hr.2.2.2 s hs
        exact ⟨by omega, this.2.2⟩
    rw [apl_cc]
    by_cases h1 : x.i < r.i
    · rw [if_pos h1, apl_allN n M (r :: R) x.i (by simp; omega) hm.2.2 ⟨h1, hr.2⟩, all_cons (fun s hs => ⟨by have := (hR s hs).1; omega, (hR s hs).2⟩)]
    · rw [if_neg h1]
      have later : ∀ s ∈ R, r.i < s.i ∧ chk s = 0 := fun s hs => ⟨(asc_lt hr.2.2.2 s hs).1, (asc_lt hr.2.2.2 s hs).2.2⟩
      by_cases h2 : x.i = r.i
      · rw [if_pos h2]
        have e : findE r.i (x :: M) = some x := by show (if x.i = r.i then _ else _) = _; rw [if_pos h2]
        have hm' : rise r.i M := by rw [← h2]; exact hm.2.2
        unfold doAll doR
        rw [e]
        dsimp only
        by_cases k0 : r.k = 0
        · rw [if_pos k0, if_pos k0]
        · rw [if_neg k0, if_neg k0]
          by_cases k2 : r.k = 2
          · rw [if_pos k2, if_pos k2]
            show _ = doAll (if x.i = r.i then M else _) R
            rw [if_pos h2]
            exact apl_allN n M R r.i (by omega) hm' hr.2.2.2
          · rw [if_neg k2, if_neg k2]
            have hy := (app_same (x := x) hr.2.2.1 h2.symm k0 k2).2
            show _ = doAll (if x.i < (appN x r).i then _ else if x.i = (appN x r).i then appN x r :: M else _) R
            rw [if_neg (by omega), if_pos (by omega), all_cons (fun s hs => ⟨by have := (later s hs).1; omega, (later s hs).2⟩), apl_allN n M R r.i (by omega) hm' hr.2.2.2]
      · rw [if_neg h2]
        have e : findE r.i (x :: M) = none := by
          show (if x.i = r.i then _ else _) = _
          rw [if_neg h2]; exact find_low hm.2.2 (by omega)
        unfold doAll doR
        rw [e]
        dsimp only
        by_cases k0 : r.k = 0
        · rw [if_pos k0, if_pos k0]
          show _ = doAll (if x.i < r.i then _ else if x.i = r.i then _ else newE r :: x :: M) R
          rw [if_neg h1, if_neg h2, all_cons (fun s hs => ⟨(later s hs).1, (later s hs).2⟩), apl_allN n (x :: M) R r.i (by simp; omega) ⟨by omega, hm.2⟩ hr.2.2.2]
        · rw [if_neg k0, if_neg k0]
theorem apl_all (M : List En) (R : List Rc) (a : Int) (hm : rise a M) (hr : asc a R) : apl M R = doAll M R := apl_allN _ M R a (Nat.lt_succ_self _) hm hr
/-- Behind the records the Ids rise still. -/
theorem do_rise {M N : List En} {r : Rc} (hm : rise (-1) M) (hc : chk r = 0) (h : doR M r = some N) : rise (-1) N := by
  have hb := chk_in hc
  unfold doR at h
  cases hf : findE r.i M with
  | none =>
    rw [hf] at h
    dsimp only at h
    split at h
    · cases h; exact rise_ins hb.2.2.2 hm (by show -1 < r.i; omega)
    · cases h
  | some x =>
    rw [hf] at h
    dsimp only at h
    split at h
    · cases h
    · split at h
      · cases h; exact rise_del _ hm
      · rename_i h0 h2
        cases h
        have hy := (app_same (x := x) hc (find_i hf).1.symm h0 h2).2
        exact rise_ins (by omega) hm (by omega)
/-! what tells one row by another -/
def genO (o : Option En) : Int := match o with
  | some a => a.g
  | none => 0
def reachB (o : Option En) (b : En) : Bool := b.g == genO o || (isO o && b.g == (genO o + 1) % 256)
def chgL (o : Option En) (b : En) : List Rc := match o with
  | none => [putR b]
  | some a => if entB a b = true then [] else [difR a b]
def conR (l : List Rc) : Option (List Rc × List En) → Option (List Rc × List En)
  | none => none
  | some p => some (l ++ p.1, p.2)
def conA (a : En) : Option (List Rc × List En) → Option (List Rc × List En)
  | none => none
  | some p => some (p.1, a :: p.2)
def telR : List En → List En → Option (List Rc × List En)
  | M, [] => some ([], M)
  | M, b :: bs => if reachB (findE b.i M) b = true then conR (chgL (findE b.i M) b) (telR (del b.i M) bs) else none
/-- The Ids rise. -/
def up : Int → List Rc → Prop
  | _, [] => True
  | last, r :: rs => last < r.i ∧ up r.i rs
/-- What the rows' merge says of the records by the entities in order. -/
def TelM (last : Int) (o : Option (List Rc)) (t : Option (List Rc × List En)) : Prop :=
  match o with
  | none => t = none
  | some R => ∃ p, t = some p ∧ R.Perm (p.1 ++ p.2.map remR) ∧ up last R
theorem rise_inj : ∀ {L : List En} {a : Int}, rise a L → ∀ x ∈ L, ∀ y ∈ L, x.i = y.i → x = y := by
  intro L a h x hx y hy he
  have h1 := find_mem h x hx
  have h2 := find_mem h y hy
  rw [he, h2] at h1
  cases h1; rfl
theorem rise_only {R S : List En} {a : Int} (hu : rise a R) (hp : R.Perm S) (hs : S.Pairwise (fun x y => x.i ≤ y.i)) : S = R := by
  refine (List.Perm.eq_of_pairwise (le := fun x y : En => x.i ≤ y.i) (fun x y hx hy h1 h2 => ?_) ((rise_pair hu).imp (fun {a b} h => by omega)) hs hp).symm
  exact rise_inj hu x hx y (hp.mem_iff.2 hy) (by omega)
end Go.Proofs.YtlpdhglibgnkoaaGreat

namespace Go.Proofs.YtlpdhglibgnkoaaGreat
open Go.RowKit
open Go.ChangeShapes Go.WideShapes Go.ChangeAt
set_option linter.unusedVariables false
variable {H : Type} {enc : TypeId × Value → H}
def ents (L : List En) : List Value := L.flatMap entC
theorem ents_len : ∀ L : List En, (ents L).length = L.length * 9
  | [] => rfl
  | r :: L => by
    have := ents_len L
    unfold ents at this ⊢
    have e : (entC r).length = 9 := rfl
    rw [List.flatMap_cons, List.length_append, this, e, List.length_cons]
    omega
theorem ents_snoc (L : List En) (r : En) : ents (L ++ [r]) = ents L ++ entC r := by unfold ents; simp
theorem entC_one (r : En) : ∀ u ∈ entC r, u.oneCell' = true := by
  intro u hu
  simp only [entC, List.mem_cons, List.not_mem_nil, or_false] at hu
  rcases hu with h | h | h | h | h | h | h | h | h <;> rw [h] <;> rfl
theorem ents_at : ∀ (L : List En) (i j : Nat) (x : Value), i < L.length → (entC (L.getD i noEnt))[j]? = some x → (ents L)[i * 9 + j]? = some x
  | r :: L, 0, j, x, _, h => by
    have hj : j < 9 := (List.getElem?_eq_some_iff.1 h).1
    unfold ents
    rw [List.flatMap_cons, Nat.zero_mul, Nat.zero_add, List.getElem?_append_left (by exact hj)]
    exact h
  | r :: L, i + 1, j, x, hi, h => by
    have := ents_at L i j x (by simpa using hi) (by simpa using h)
    unfold ents at this ⊢
    rw [List.flatMap_cons, List.getElem?_append_right (by show 9 ≤ _; omega)]
    show (List.flatMap entC L)[(i + 1) * 9 + j - 9]? = some x
    rw [show (i + 1) * 9 + j - 9 = i * 9 + j by omega]
    exact this
/-- A value that a call owns, of these records. -/
def OwnE (w : World) (B : Nat) (v : Value) (L : List En) : Prop := w.ownsRow B 69 9 v L.length (ents L)
theorem OwnE.nil (w : World) (B : Nat) : OwnE w B (.slice none 0 0) [] := World.ownsRow_nil w B _ _
theorem OwnE.lt {w : World} {B : Nat} {v : Value} {L : List En} (h : OwnE w B v L) : ∀ k, v.ownBlock = some k → B ≤ k ∧ k < w.heap.size := World.ownsRow.lt h
theorem OwnE.below {w w' : World} {B : Nat} {v : Value} {L : List En} (h : OwnE w B v L) (hb : Below w.heap.size w w') : OwnE w' B v L := by
  refine ⟨h.1, ?_⟩
  rcases h.2 with hn | ⟨g, cap, cur, hv, hB, hg, rest⟩
  · exact Or.inl hn
  · exact Or.inr ⟨g, cap, cur, hv, hB, (hb.block g (Array.getElem?_eq_some_iff.1 hg).1).trans hg, rest⟩
theorem OwnE.grow {B B2 : Nat} {w w' : World} {u v v' : Value} {L : List En} (h : OwnE w B2 u L) (ha : Apart u v) (k : Grow B v w v' w') : OwnE w' B2 u L ∧ Apart u v' := by
  refine ⟨World.ownsRow.kept h k.by_ ha, ?_⟩
  rcases k.blk with e | e
  · unfold Apart at ha ⊢; rw [e]; exact ha
  · unfold Apart; rw [e]
    cases hb : u.ownBlock with
    | none => exact Or.inl rfl
    | some g =>
      right
      intro h'
      have := (h.lt g hb).2
      injection h' with h'
      omega
/-- The cells of record i. -/
theorem OwnE.cells {w : World} {B : Nat} {v : Value} {L : List En} (h : OwnE w B v L) (hl : L ≠ []) : ∃ g cap, v = .slice (some ⟨g, 0, none⟩) L.length cap ∧ B ≤ g ∧ g < w.heap.size ∧ L.length ≤ cap ∧ cap ≤ 9223372036854775807 ∧ ∀ i, i < L.length → ∀ j x, (entC (L.getD i noEnt))[j]? = some x → w.cell? ⟨g, i * 9 + j, none⟩ = some x := by
  have hp := List.length_pos_iff.2 hl
  rcases h.2 with ⟨_, h0⟩ | ⟨g, cap, cur, hv, hb, hg, hc, hm, hs, ht⟩
  · omega
  · refine ⟨g, cap, hv, hb, (Array.getElem?_eq_some_iff.1 hg).1, hc, hm, fun i hi j x hx => ?_⟩
    have hj : j < 9 := (List.getElem?_eq_some_iff.1 hx).1
    have e := ents_at L i j x hi hx
    rw [← ht, List.getElem?_take, if_pos (by omega)] at e
    rw [cell_of_row w g (i * 9 + j) cur _ (0, 0) hg]
    simpa using e
theorem infoE : (Tryz.prog.info? 69).map (fun i => (i.zero, i.size, i.bytes)) = some (some (entV noEnt), 9, 64) := by kernel_rfl
theorem OwnE.row {w : World} {B : Nat} {v : Value} {L : List En} (h : OwnE w B v L) : ∀ k, v.ownBlock = some k → B ≤ k := fun k hk => (h.lt k hk).1
theorem growE_op {w : World} {o : Oper} {a : Act} {K : Act → World → Prop} {Q : Exit → Act → World → Prop} (s x : Operand)
    (ho : o.op = .call { callee := .builtin .append, args := #[s, x], argTypes := #[43, 43] })
    (B : Nat) (v : Value) (L : List En) (hs : a.eval s = v) (hown : OwnE w B v L) (g0 : Nat) (r : En) (hx : a.eval x = .slice (some ⟨g0, 0, none⟩) 1 1)
    (hr : ∀ j u, (entC r)[j]? = some u → w.cell? ⟨g0, j, none⟩ = some u) (hlen : L.length ≤ 1000000) (hB : B ≤ w.heap.size)
    (h : ∀ v' w', OwnE w' B v' (L ++ [r]) → Grow B v w v' w' → K (a.put o.dst v') w') : o.wp Tryz.prog a w K Q := by
  obtain ⟨i0, hi, hz0, hz1, hz2⟩ := info_parts infoE
  refine wp_append_lies w s x 43 ho B 69 i0 (entV noEnt) 9 64 Tryz.underlying43 hi hz0 hz1 hz2 rfl (by decide) v L.length (ents L) hs hown ⟨g0, 0, none⟩ 1 1 (entC r) hx rfl (fun j u hu => by rw [Addr.add_lit, Nat.zero_add]; exact hr j u hu) (entC_one r) (by omega) (by unfold maxLen; omega) (by omega) hB w.heap.size rfl ?_
  intro g cap' w' hown' hgrow hor hlt
  refine h _ w' ?_ ⟨(Below.refl B w).grown hgrow hB hown.row, hgrow, ?_⟩
  · unfold OwnE
    rw [List.length_append, ents_snoc]
    exact hown'
  · rcases hor with e | e
    · exact Or.inl e.symm
    · right; rw [e]; rfl
theorem growE_step {w : World} {ops : Array Oper} {o : Oper} {a : Act} {K : Act → World → Prop} {Q : Exit → Act → World → Prop} {E : Prop} (hgd : o.guard = none) (d : Option Nat) (hd : o.dst = d) (s x : Operand)
    (ho : o.op = .call { callee := .builtin .append, args := #[s, x], argTypes := #[43, 43] })
    (B : Nat) (v : Value) (L : List En) (hs : a.eval s = v) (hown : OwnE w B v L) (g0 : Nat) (r : En) (hx : a.eval x = .slice (some ⟨g0, 0, none⟩) 1 1)
    (hr : ∀ j u, (entC r)[j]? = some u → w.cell? ⟨g0, j, none⟩ = some u) (hlen : L.length ≤ 1000000) (hB : B ≤ w.heap.size)
    (h : ∀ v' w', OwnE w' B v' (L ++ [r]) → Grow B v w v' w' → K (a.put d v') w') :
    if Region.wanted o (yielded ops a.tmps) = true then Oper.wp Tryz.prog o a w K Q else E := by
  subst hd
  have hw : Region.wanted o (yielded ops a.tmps) = true := by simp [Region.wanted, hgd]
  rw [if_pos hw]
  exact growE_op s x ho B v L hs hown g0 r hx hr hlen hB h
theorem OwnE.form {w : World} {B : Nat} {v : Value} {L : List En} (h : OwnE w B v L) : ∃ ao cap, v = .slice ao L.length cap := by
  rcases h.2 with ⟨rfl, h0⟩ | ⟨g, cap, cur, hv, _⟩
  · exact ⟨none, 0, by rw [h0]⟩
  · exact ⟨_, cap, hv⟩
theorem growE_wp {w : World} {ops : Array Oper} {rest : List Oper} {o : Oper} {a : Act} {Q : Exit → Act → World → Prop} (hgd : o.guard = none) (s x : Operand)
    (ho : o.op = .call { callee := .builtin .append, args := #[s, x], argTypes := #[43, 43] })
    (B : Nat) (v : Value) (L : List En) (hs : a.eval s = v) (hown : OwnE w B v L) (g0 : Nat) (r : En) (hx : a.eval x = .slice (some ⟨g0, 0, none⟩) 1 1)
    (hr : ∀ j u, (entC r)[j]? = some u → w.cell? ⟨g0, j, none⟩ = some u) (hlen : L.length ≤ 1000000) (hB : B ≤ w.heap.size)
    (h : ∀ v' w', OwnE w' B v' (L ++ [r]) → Grow B v w v' w' → wpList Tryz.prog ops Q rest (a.put o.dst v') w') : wpList Tryz.prog ops Q (o :: rest) a w :=
  wpList_plain hgd fun K hK => growE_op s x ho B v L hs hown g0 r hx hr hlen hB fun v' w' h1 h2 => hK _ _ (h v' w' h1 h2)
/-- A value that reads as these records, by their places. -/
def RdE (w : World) (v : Value) (n : Nat) (A : Nat → En) : Prop :=
  ∃ ao cap, v = .slice ao n cap ∧ n ≤ cap ∧ cap ≤ 9223372036854775807 ∧ (n = 0 ∨ ∃ b o, ao = some ⟨b, o, none⟩ ∧ ∀ i, i < n → ∀ j x, (entC (A i))[j]? = some x → w.cell? ⟨b, o + i * 9 + j, none⟩ = some x)
theorem RdE.below {w w' : World} {v : Value} {n : Nat} {A : Nat → En} (h : RdE w v n A) (hb : Below w.heap.size w w') : RdE w' v n A := by
  obtain ⟨ao, cap, rfl, h1, h2, h3⟩ := h
  refine ⟨ao, cap, rfl, h1, h2, ?_⟩
  rcases h3 with h | ⟨b, o, rfl, h⟩
  · exact Or.inl h
  · refine Or.inr ⟨b, o, rfl, fun i hi j x hj => ?_⟩
    have c := h i hi j x hj
    exact (hb.cell (p := ⟨b, o + i * 9 + j, none⟩) (World.block_lt_of_cell? w _ c)).trans c
theorem RdE.none (w : World) : RdE w (.slice .none 0 0) 0 (fun _ => noEnt) := ⟨.none, 0, rfl, Nat.le_refl _, by omega, Or.inl rfl⟩
/-- Records that the call owns are read, by their places. -/
theorem OwnE.rdR {w : World} {B : Nat} {v : Value} {L : List En} (h : OwnE w B v L) : RdE w v L.length (fun i => L.getD i noEnt) := by
  by_cases hl : L = []
  · subst hl
    rcases h.2 with ⟨e, _⟩ | ⟨g, cap, cur, hv, hb, hg, hc, hm, hs, ht⟩
    · subst e
      exact ⟨none, 0, rfl, Nat.le_refl _, by omega, Or.inl rfl⟩
    · subst hv
      exact ⟨_, cap, rfl, hc, hm, Or.inl rfl⟩
  · obtain ⟨g, cap, rfl, h1, h2, h3, h4, h5⟩ := h.cells hl
    exact ⟨_, cap, rfl, h3, h4, Or.inr ⟨g, 0, rfl, fun i hi j x hx => by simpa using h5 i hi j x hx⟩⟩
end Go.Proofs.YtlpdhglibgnkoaaGreat

namespace Go.Proofs.YtlpdhglibgnkoaaGreat
open Go.RowKit
set_option linter.unusedVariables false

def RV (v : Value) : Option (DataW Value × List MemPlace) := some (.held v, [])
theorem law_int : Go.Maps.Keyed Tryz.prog 3 := Go.Maps.int_keyed Tryz.underlying3
theorem zeroEnt (w : World) : (zeroValue 69).run Tryz.prog w = .ok (entV noEnt) w := by kernel_rfl
def getE (o : Option En) : En := match o with
  | some e => e
  | none => noEnt
/-- A map's datum tells these entities, each by its Id. -/
structure Tells (D : DataW Value) (M : List En) : Prop where
  isMap : Go.Maps.IsMap D
  size : Go.Maps.size D = M.length
  has : ∀ x : Int, S64 x → Go.Maps.has D (.int .i64 x) = isO (findE x M)
  at_ : ∀ x : Int, S64 x → ∀ z, D.atKey (.int .i64 x) z = match findE x M with
    | some e => .held (entV e)
    | none => z
theorem wfS {x : Int} (h : S64 x) : (Lit.int .i64 x).wf = true := Go.WalkArith.wf_i64 h
theorem Tells.nil : Tells (.map []) [] := ⟨⟨_, rfl⟩, rfl, fun _ _ => rfl, fun _ _ _ => rfl⟩
theorem keyLit {x : Int} (h : S64 x) : Go.WideAt.IsKeyLit (.int .i64 x) := law_int.key (Go.Maps.keyOf_int_mk Tryz.underlying3 (wfS h))
theorem rise_S64 {M : List En} (h : rise (-1) M) : ∀ e ∈ M, S64 e.i := fun e he => by have := rise_lt h e he; unfold S64; omega
theorem Tells.put {D : DataW Value} {M : List En} (h : Tells D M) (ht : Go.Maps.Tidy D) (hr : rise (-1) M) {e : En} (he : S64 e.i) : Tells (D.put (.int .i64 e.i) (.held (entV e))) (ins e M) := by
  refine ⟨h.isMap.put _ _, ?_, fun x hx => ?_, fun x hx z => ?_⟩
  · rw [Go.Maps.size_put ht, len_ins hr, h.has _ he, h.size]
  · rw [find_ins]
    by_cases hxe : x = e.i
    · subst hxe
      rw [Go.Maps.has_put_same h.isMap (keyLit hx), if_pos rfl]; rfl
    · rw [Go.Maps.has_put_other (by intro q; injection q with _ q; exact hxe q), if_neg hxe, h.has x hx]
  · rw [find_ins]
    by_cases hxe : x = e.i
    · subst hxe
      rw [Go.Maps.atKey_put_same h.isMap (keyLit hx), if_pos rfl]
    · rw [Go.Maps.atKey_put_other (by intro q; injection q with _ q; exact hxe q), if_neg hxe, h.at_ x hx]
theorem Tells.del {D : DataW Value} {M : List En} (h : Tells D M) (ht : Go.Maps.Tidy D) (hr : rise (-1) M) {k : Int} (hk : S64 k) : Tells (D.del (.int .i64 k)) (del k M) := by
  refine ⟨h.isMap.del _, ?_, fun x hx => ?_, fun x hx z => ?_⟩
  · have h1 := Go.Maps.size_del ht (k := .int .i64 k)
    have h2 := len_del k M
    rw [h.has k hk, h.size] at h1
    omega
  · rw [find_del k x hr]
    by_cases hxe : x = k
    · subst hxe; rw [Go.Maps.has_del_same, if_pos rfl]; rfl
    · rw [Go.Maps.has_del_other (by intro q; injection q with _ q; exact hxe q), if_neg hxe, h.has x hx]
  · rw [find_del k x hr]
    by_cases hxe : x = k
    · subst hxe; rw [Go.Maps.atKey_del_same, if_pos rfl]
    · rw [Go.Maps.atKey_del_other (by intro q; injection q with _ q; exact hxe q), if_neg hxe, h.at_ x hx]
/-- Block b is a map of these entities. -/
def MapE (w : World) (b : Nat) (M : List En) : Prop := ∃ D, w.ownsMap Tryz.prog 3 RV b M.length D ∧ rise (-1) M ∧ Tells D M
theorem own_min {w : World} {b n : Nat} {D : DataW Value} (h : w.ownsMap Tryz.prog 3 RV b n D) : w.ownsMap Tryz.prog 3 RV b (Go.Maps.size D) D := by
  obtain ⟨es, clock, hb, F, hs, rfl⟩ := h
  exact ⟨es, clock, hb, F, by simp [Go.Maps.size, length_sorted], rfl⟩
theorem MapE.asc_ {w : World} {b : Nat} {M : List En} (h : MapE w b M) : rise (-1) M := by obtain ⟨_, _, h, _⟩ := h; exact h
theorem MapE.lt {w : World} {b : Nat} {M : List En} (h : MapE w b M) : b < w.heap.size := by obtain ⟨_, h, _⟩ := h; exact h.lt
theorem MapE.made (w : World) : MapE (w.alloc (.map #[] 0)) w.heap.size [] := ⟨_, World.ownsMap_made w _ _ _, trivial, Tells.nil⟩
theorem MapE.kept {w w' : World} {row : Option Nat} {b : Nat} {M : List En} (h : MapE w b M) (hg : w.grownBy w' row) (hne : some b ≠ row) : MapE w' b M := by
  obtain ⟨D, h1, h2⟩ := h
  exact ⟨D, h1.kept hg hne, h2⟩
theorem below_by {w w' : World} (h : Below w.heap.size w w') : w.grownBy w' none := ⟨h.os, h.tape, h.output, h.size, fun k hk _ => h.block k hk⟩
theorem MapE.below {w w' : World} {b : Nat} {M : List En} (h : MapE w b M) (hb : Below w.heap.size w w') : MapE w' b M := h.kept (below_by hb) (by simp)
theorem MapE.alloc {w : World} {b : Nat} {M : List En} (h : MapE w b M) (o : Obj) : MapE (w.alloc o) b M := h.kept (World.grownBy_alloc w o none) (by simp)
theorem MapE.drew {w : World} {b : Nat} {M : List En} (h : MapE w b M) : MapE w.drew b M := h
theorem MapE.drewN {w : World} {b : Nat} {M : List En} (h : MapE w b M) (n : Nat) : MapE (w.drewN n) b M := h
theorem MapE.setCell {w : World} {b : Nat} {M : List En} (h : MapE w b M) {a : Addr} (ha : b ≠ a.block) (u : Value) : MapE (w.setCell a u) b M := by
  obtain ⟨D, h1, h2⟩ := h
  exact ⟨D, h1.setCell ha u, h2⟩
theorem Blk.by_ {w w' : World} {row : Option Nat} {b : Nat} {cs : List Value} (h : Blk w b cs) (hg : w.grownBy w' row) (hne : some b ≠ row) : Blk w' b cs := by
  have e := hg.block b h.lt hne
  exact ⟨Nat.lt_of_lt_of_le h.lt hg.size, fun o ho => (World.cell?_of_block (w := w) (a := ⟨b, o, none⟩) e).trans (h.all o ho), fun o => (World.frozen?_of_block (w := w) (a := ⟨b, o, none⟩) e).trans (h.froz o)⟩
theorem len_max {M : List En} (h : rise (-1) M) : M.length ≤ 65536 := by
  have key : ∀ (L : List En) (a : Int), rise a L → a ≤ 65535 → (L.length : Int) ≤ 65535 - a := by
    intro L
    induction L with
    | nil => intro a _ h; simp; omega
    | cons e L ih => intro a h1 h2; have := ih e.i h1.2.2 h1.2.1; have := h1.1; rw [List.length_cons]; omega
  have := key M (-1) h (by omega)
  omega

section
variable {w : World} {ops : Array Oper} {rest : List Oper} {o : Oper} {a : Act} {Q : Exit → Act → World → Prop}
/-- 'v, ok := m[k]'. -/
theorem lookE_wp (hg : o.guard = none) (m x : Operand) (hop : o.op = Op.lookup 104 m x true) (b : Nat) (M : List En) (hm : a.eval m = .map (some b)) (h : MapE w b M) (k : Int) (hx : a.eval x = .int .i64 k) (hk : S64 k)
    (hK : wpList Tryz.prog ops Q rest (a.put o.dst (.tuple #[entV (getE (findE k M)), .bool (isO (findE k M))])) w) : wpList Tryz.prog ops Q (o :: rest) a w := by
  obtain ⟨D, h1, h2, h3⟩ := h
  refine wpList_lookup_own_ok _ hg m x 104 hop 3 69 law_int Tryz.underlying104 RV (zeroEnt w) (.held (entV noEnt)) [] rfl b M.length D hm h1 _ (.int .i64 k) hx (Go.Maps.keyOf_int_mk Tryz.underlying3 (wfS hk)) ?_
  intro v ps hv
  rw [h3.at_ k hk] at hv
  rw [h3.has k hk]
  have e : v = entV (getE (findE k M)) := by
    cases hf : findE k M with
    | none => rw [hf] at hv; simp [RV] at hv; exact hv.1
    | some e => rw [hf] at hv; simp [RV] at hv; exact hv.1
  rw [e]
  exact hK
/-- 'm[k] = v'. -/
theorem storeE_wp (hg : o.guard = none) (m x v : Operand) (hop : o.op = Op.mapUpdate 104 m x v) (b : Nat) (M : List En) (hm : a.eval m = .map (some b)) (h : MapE w b M) (e : En) (hx : a.eval x = .int .i64 e.i) (hv : a.eval v = entV e) (he0 : 0 ≤ e.i) (he1 : e.i ≤ 65535)
    (hK : ∀ w', MapE w' b (ins e M) → w.grownBy w' (some b) → wpList Tryz.prog ops Q rest (a.put o.dst undef) w') : wpList Tryz.prog ops Q (o :: rest) a w := by
  obtain ⟨D, h1, h2, h3⟩ := h
  have hS : S64 e.i := by unfold S64; omega
  have hl := len_max h2
  refine wpList_mapUpdate_own _ hg m x v 104 hop 3 69 law_int Tryz.underlying104 RV b M.length D hm h1 (by unfold maxLen; omega) _ _ (.int .i64 e.i) hx hv (Go.Maps.keyOf_int_mk Tryz.underlying3 (wfS hS)) (.held (entV e)) [] rfl ?_
  intro w' h1' hg'
  have ht := h1.tidy law_int
  have hT := h3.put ht h2 hS
  refine hK w' ⟨_, ?_, rise_ins he1 h2 (by omega), hT⟩ hg'
  have := own_min h1'
  rw [hT.size] at this
  exact this
/-- 'delete(m, k)'. -/
theorem delE_wp (hg : o.guard = none) (m x : Operand) (hop : o.op = Op.call { callee := Callee.builtin Builtin.delete, args := #[m, x], argTypes := #[104, 3] }) (b : Nat) (M : List En) (hm : a.eval m = .map (some b)) (h : MapE w b M) (k : Int) (hx : a.eval x = .int .i64 k) (hk : S64 k)
    (hK : ∀ w', MapE w' b (del k M) → w.grownBy w' (some b) → wpList Tryz.prog ops Q rest (a.put o.dst (.tuple #[])) w') : wpList Tryz.prog ops Q (o :: rest) a w := by
  obtain ⟨D, h1, h2, h3⟩ := h
  refine wpList_delete_own _ hg m x 104 3 hop 69 law_int Tryz.underlying104 RV b M.length D hm h1 _ (.int .i64 k) hx (Go.Maps.keyOf_int_mk Tryz.underlying3 (wfS hk)) ?_
  intro w' h1' hg'
  have hT := h3.del (h1.tidy law_int) h2 hk
  refine hK w' ⟨_, ?_, rise_del k h2, hT⟩ hg'.grown
  have := own_min h1'
  rw [hT.size] at this
  exact this
/-- 'len(m)'. -/
theorem lenE_wp (hg : o.guard = none) (m : Operand) (hop : o.op = Op.call { callee := Callee.builtin Builtin.len, args := #[m], argTypes := #[104] }) (b : Nat) (M : List En) (hm : a.eval m = .map (some b)) (h : MapE w b M)
    (hK : wpList Tryz.prog ops Q rest (a.put o.dst (.int .i64 (M.length : Nat))) w) : wpList Tryz.prog ops Q (o :: rest) a w := by
  obtain ⟨D, h1, h2, h3⟩ := h
  refine wpList_len_own _ hg m 104 hop 3 69 Tryz.underlying104 RV b M.length D hm h1 ?_
  rw [h3.size]
  exact hK
end

/-! a loop over the map -/
/-- Under way: these have come; so many are still to come. -/
def RunE (w : World) (b r : Nat) (M got : List En) (cnt : Nat) : Prop :=
  ∃ D left, w.ranges Tryz.prog 3 RV b r M.length D left cnt ∧ rise (-1) M ∧ Tells D M ∧ got.Nodup ∧ ∀ e, e ∈ got ↔ (e ∈ M ∧ left (.int .i64 e.i) = false)
theorem RunE.map {w : World} {b r : Nat} {M got : List En} {cnt : Nat} (h : RunE w b r M got cnt) : MapE w b M := by
  obtain ⟨D, left, h1, h2, h3, _⟩ := h
  exact ⟨D, h1.owns, h2, h3⟩
theorem RunE.left_eq {w : World} {b r : Nat} {M got : List En} {cnt : Nat} (h : RunE w b r M got cnt) : w.rangeLeft b r = cnt := by
  obtain ⟨D, left, h1, _⟩ := h
  exact h1.left_eq
theorem RunE.lt {w : World} {b r : Nat} {M got : List En} {cnt : Nat} (h : RunE w b r M got cnt) : r < w.heap.size := by
  obtain ⟨D, left, h1, _⟩ := h
  exact h1.lt
theorem RunE.kept {w w' : World} {row : Option Nat} {b r : Nat} {M got : List En} {cnt : Nat} (h : RunE w b r M got cnt) (hg : w.grownBy w' row) (hb : some b ≠ row) (hr : some r ≠ row) : RunE w' b r M got cnt := by
  obtain ⟨D, left, h1, h2⟩ := h
  exact ⟨D, left, h1.kept hg hb hr, h2⟩
theorem mapE_start {w' : World} {b r : Nat} {M : List En} {D : DataW Value} (h2 : rise (-1) M) (h3 : Tells D M) (hr : w'.ranges Tryz.prog 3 RV b r M.length D (Go.Maps.has D) (Go.Maps.size D)) : RunE w' b r M [] M.length := by
  refine ⟨D, _, by rw [← h3.size]; rw [← h3.size] at hr; exact hr, h2, h3, List.nodup_nil, fun e => ⟨fun h => (by cases h), fun h => ?_⟩⟩
  have := h.2
  rw [h3.has _ (rise_S64 h2 e h.1), find_mem h2 e h.1] at this
  cases this
theorem RunE.step {w w' : World} {b r : Nat} {M got : List En} {cnt cnt' : Nat} {D : DataW Value} {left : Lit → Bool} (h2 : rise (-1) M) (h3 : Tells D M) (h4 : got.Nodup) (h5 : ∀ e, e ∈ got ↔ (e ∈ M ∧ left (.int .i64 e.i) = false))
    {x : Int} (hx : S64 x) {v : Value} {y : DataW Value × List MemPlace} (hl : left (.int .i64 x) = true) (hv : RV v = some y) (hat : ∀ zd, D.atKey (.int .i64 x) zd = y.1) (hr : w'.ranges Tryz.prog 3 RV b r M.length D (fun z => left z && !z.sameKey (.int .i64 x)) cnt') :
    ∃ e, e ∈ M ∧ x = e.i ∧ v = entV e ∧ RunE w' b r M (got ++ [e]) cnt' := by
  have hh := Go.Maps.has_true_of_atKey hat
  rw [h3.has x hx] at hh
  cases hf : findE x M with
  | none => rw [hf] at hh; cases hh
  | some e =>
    obtain ⟨e1, e2⟩ := find_i hf
    have hv' := hat (.held (entV noEnt))
    rw [h3.at_ x hx, hf] at hv'
    have hvy : y = (.held v, []) := by simp [RV] at hv; exact hv.symm
    rw [hvy] at hv'
    simp at hv'
    refine ⟨e, e2, e1.symm, hv'.symm, D, _, hr, h2, h3, ?_, fun e' => ?_⟩
    · refine List.nodup_append.2 ⟨h4, by simp, fun p hp q hq => ?_⟩
      simp at hq
      subst hq
      intro he
      subst he
      have := ((h5 p).1 hp).2
      rw [e1, hl] at this
      cases this
    · rw [List.mem_append, h5 e']
      by_cases he : e' = e
      · subst he
        rw [e1]
        refine ⟨fun _ => ⟨e2, ?_⟩, fun _ => Or.inr (by simp)⟩
        rw [Go.WideAt.sameKey_self (keyLit hx)]; simp
      · constructor
        · rintro (⟨p, q⟩ | p)
          · exact ⟨p, by rw [q]; rfl⟩
          · simp at p; exact absurd p he
        · rintro ⟨p, q⟩
          refine Or.inl ⟨p, ?_⟩
          have hne : e'.i ≠ x := fun q' => he (rise_inj h2 e' p e e2 (by omega))
          rw [Go.Maps.sameKey_ne (by intro q'; injection q' with _ q'; exact hne q')] at q
          simpa using q
theorem RunE.done {w : World} {b r : Nat} {M got : List En} {cnt : Nat} {D : DataW Value} {left : Lit → Bool} (h2 : rise (-1) M) (h4 : got.Nodup) (h5 : ∀ e, e ∈ got ↔ (e ∈ M ∧ left (.int .i64 e.i) = false)) (hl : ∀ kl, left kl = false) : got.Perm M := by
  refine (List.perm_ext_iff_of_nodup h4 ?_).2 fun e => ?_
  · exact (rise_pair h2).imp (fun {p q} h he => by subst he; omega)
  · rw [h5 e, hl]; simp
section
variable {w : World} {ops : Array Oper} {rest : List Oper} {o : Oper} {a : Act} {Q : Exit → Act → World → Prop}
end
end Go.Proofs.YtlpdhglibgnkoaaGreat
