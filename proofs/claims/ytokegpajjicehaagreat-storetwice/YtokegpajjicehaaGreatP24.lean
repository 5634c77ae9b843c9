/-
  Texts Dl2, Dl3 in one.
-/
import Derived.Test.YtokegpajjicehaaGreatP23
namespace Go.Proofs.YtokegpajjicehaaGreat
open Go.RowKit
set_option linter.unusedVariables false

def isO {α : Type} : Option α → Bool
  | some _ => true
  | none => false
theorem consO_none {α : Type} {x : α} {o : Option (List α)} : consO x o = none ↔ o = none := by cases o <;> simp [consO]
theorem rise_mono : ∀ {L : List En} {a b : Int}, a ≤ b → rise b L → rise a L
  | [], _, _, _, _ => trivial
  | e :: L, a, b, h, h1 => ⟨by have := h1.1; omega, h1.2⟩
theorem find_low : ∀ {L : List En} {a id : Int}, rise a L → id ≤ a → findE id L = none
  | [], _, _, _, _ => rfl
  | e :: L, a, id, h, hid => by
    have h1 := h.1
    unfold findE
    rw [if_neg (by omega)]
    exact find_low h.2.2 (by omega)
theorem find_i : ∀ {L : List En} {id : Int} {x : En}, findE id L = some x → x.i = id ∧ x ∈ L
  | [], _, _, h => by cases h
  | e :: L, id, x, h => by
    unfold findE at h
    split at h
    · cases h
      exact ⟨by assumption, by simp⟩
    · have := find_i h
      exact ⟨this.1, by simp [this.2]⟩
theorem find_none : ∀ {L : List En} {id : Int}, (∀ x ∈ L, x.i ≠ id) → findE id L = none
  | [], _, _ => rfl
  | e :: L, id, h => by
    unfold findE
    rw [if_neg (h e (by simp))]
    exact find_none (fun x hx => h x (by simp [hx]))
theorem rise_lt : ∀ {L : List En} {a : Int}, rise a L → ∀ x ∈ L, a < x.i ∧ x.i ≤ 65535
  | [], _, _, _, hx => by cases hx
  | e :: L, a, h, x, hx => by
    rcases List.mem_cons.1 hx with rfl | hx
    · exact ⟨h.1, h.2.1⟩
    · have := rise_lt h.2.2 x hx
      have := h.1
      omega
theorem find_mem : ∀ {L : List En} {a : Int}, rise a L → ∀ x ∈ L, findE x.i L = some x
  | [], _, _, _, hx => by cases hx
  | e :: L, a, h, x, hx => by
    unfold findE
    rcases List.mem_cons.1 hx with rfl | hx
    · rw [if_pos rfl]
    · have := (rise_lt h.2.2 x hx).1
      rw [if_neg (by omega)]
      exact find_mem h.2.2 x hx
theorem rise_pair : ∀ {L : List En} {a : Int}, rise a L → L.Pairwise (fun x y => x.i < y.i)
  | [], _, _ => List.Pairwise.nil
  | e :: L, a, h => List.pairwise_cons.2 ⟨fun x hx => (rise_lt h.2.2 x hx).1, rise_pair h.2.2⟩

/-! an entity put, or taken -/
def ins (e : En) : List En → List En
  | [] => [e]
  | x :: M => if x.i < e.i then x :: ins e M else if x.i = e.i then e :: M else e :: x :: M
def del (id : Int) : List En → List En
  | [] => []
  | x :: M => if x.i = id then M else x :: del id M
theorem find_ins (e : En) (id : Int) : ∀ M, findE id (ins e M) = if id = e.i then some e else findE id M
  | [] => by
    unfold ins findE
    by_cases h : id = e.i
    · rw [if_pos h.symm, if_pos h]
    · rw [if_neg (fun q => h q.symm), if_neg h]; rfl
  | x :: M => by
    have ih := find_ins e id M
    unfold ins
    split
    · rename_i h1
      unfold findE
      rw [ih]
      by_cases h : x.i = id
      · rw [if_pos h, if_neg (by omega), if_pos h]
      · rw [if_neg h]
        by_cases h2 : id = e.i
        · rw [if_pos h2, if_pos h2]
        · rw [if_neg h2, if_neg h2, if_neg h]
    · rename_i h1
      split
      · rename_i h2
        by_cases h : id = e.i
        · rw [if_pos h]; unfold findE; rw [if_pos h.symm]
        · rw [if_neg h]
          show (if e.i = id then _ else _) = (if x.i = id then _ else _)
          rw [if_neg (fun q => h q.symm), if_neg (by omega)]
      · by_cases h : id = e.i
        · rw [if_pos h]; unfold findE; rw [if_pos h.symm]
        · rw [if_neg h]
          show (if e.i = id then _ else _) = _
          rw [if_neg (fun q => h q.symm)]
theorem rise_ins {e : En} (he : e.i ≤ 65535) : ∀ {M : List En} {a : Int}, rise a M → a < e.i → rise a (ins e M)
  | [], a, _, h => ⟨h, he, trivial⟩
  | x :: M, a, h, hae => by
    unfold ins
    split
    · exact ⟨h.1, h.2.1, rise_ins he h.2.2 (by omega)⟩
    · split
      · rename_i h2
        exact ⟨hae, he, by rw [← h2]; exact h.2.2⟩
      · exact ⟨hae, he, by omega, h.2.1, h.2.2⟩
theorem len_ins {e : En} : ∀ {M : List En} {a : Int}, rise a M → (ins e M).length = if isO (findE e.i M) = true then M.length else M.length + 1
  | [], _, _ => rfl
  | x :: M, a, h => by
    have ih := len_ins (e := e) h.2.2
    unfold ins findE
    by_cases h1 : x.i < e.i
    · have hn : ¬ x.i = e.i := by omega
      rw [if_pos h1, if_neg hn, List.length_cons, ih]
      split <;> simp
    · rw [if_neg h1]
      by_cases h2 : x.i = e.i
      · rw [if_pos h2, if_pos h2]; rfl
      · rw [if_neg h2, if_neg h2, find_low h.2.2 (by omega)]
        simp [isO]
theorem find_del (k id : Int) : ∀ {M : List En} {a : Int}, rise a M → findE id (del k M) = if id = k then none else findE id M
  | [], _, _ => by unfold del findE; split <;> rfl
  | x :: M, a, h => by
    have ih := find_del k id h.2.2
    unfold del
    split
    · rename_i h1
      by_cases h2 : id = k
      · rw [if_pos h2]; exact find_low h.2.2 (by omega)
      · rw [if_neg h2]
        show _ = (if x.i = id then _ else _)
        rw [if_neg (by omega)]
    · rename_i h1
      show (if x.i = id then _ else _) = _
      rw [ih]
      by_cases h2 : id = k
      · rw [if_neg (by omega), if_pos h2, if_pos h2]
      · rw [if_neg h2, if_neg h2]; rfl
theorem rise_del (k : Int) : ∀ {M : List En} {a : Int}, rise a M → rise a (del k M)
  | [], _, _ => trivial
  | x :: M, a, h => by
    unfold del
    split
    · exact rise_mono (by have := h.1; omega) h.2.2
    · exact ⟨h.1, h.2.1, rise_del k h.2.2⟩
theorem len_del (k : Int) : ∀ (M : List En), (del k M).length + (if isO (findE k M) = true then 1 else 0) = M.length
  | [] => rfl
  | x :: M => by
    have ih := len_del k M
    unfold del findE
    by_cases h : x.i = k
    · rw [if_pos h, if_pos h]; rfl
    · rw [if_neg h, if_neg h, List.length_cons, List.length_cons]; omega
theorem del_low : ∀ {M : List En} {a k : Int}, rise a M → k ≤ a → del k M = M
  | [], _, _, _, _ => rfl
  | x :: M, a, k, h, hk => by
    have h1 := h.1
    unfold del
    rw [if_neg (by omega), del_low h.2.2 (by omega)]
theorem mem_ins {e y : En} : ∀ {M : List En}, y ∈ ins e M → y = e ∨ y ∈ M
  | [], h => by unfold ins at h; simp at h; exact Or.inl h
  | x :: M, h => by
    unfold ins at h
    split at h
    · rcases List.mem_cons.1 h with h | h
      · exact Or.inr (by simp [h])
      · rcases mem_ins h with h | h
        · exact Or.inl h
        · exact Or.inr (by simp [h])
    · split at h
      · rcases List.mem_cons.1 h with h | h
        · exact Or.inl h
        · exact Or.inr (by simp [h])
      · rcases List.mem_cons.1 h with h | h
        · exact Or.inl h
        · exact Or.inr h
theorem mem_del {k : Int} {y : En} : ∀ {M : List En}, y ∈ del k M → y ∈ M
  | [], h => h
  | x :: M, h => by
    unfold del at h
    split at h
    · simp [h]
    · rcases List.mem_cons.1 h with h | h
      · simp [h]
      · simp [mem_del h]

/-! what one record makes -/
def doR (M : List En) (r : Rc) : Option (List En) :=
  match findE r.i M with
  | none => if r.k = 0 then some (ins (newE r) M) else none
  | some x => if r.k = 0 then none else if r.k = 2 then some (del r.i M) else some (ins (appN x r) M)
def doAll : List En → List Rc → Option (List En)
  | M, [] => some M
  | M, r :: rs => match doR M r with
    | none => none
    | some M' => doAll M' rs
theorem app_same {x : En} {r : Rc} (hc : chk r = 0) (hi : r.i = x.i) (h0 : r.k ≠ 0) (h2 : r.k ≠ 2) : appE x r = 0 ∧ (appN x r).i = r.i := by
  have e : appE x r = 0 := by unfold appE; rw [if_pos hc, if_neg (by omega)]
  refine ⟨e, ?_⟩
  unfold appN
  rw [if_pos e, hi]
  split <;> rfl
/-- Records that may be, of rising Ids. -/
def asc : Int → List Rc → Prop
  | _, [] => True
  | last, r :: rs => last < r.i ∧ r.i ≤ 65535 ∧ chk r = 0 ∧ asc r.i rs
theorem asc_mono : ∀ {R : List Rc} {a b : Int}, a ≤ b → asc b R → asc a R
  | [], _, _, _, _ => trivial
  | r :: R, a, b, h, h1 => ⟨by have := h1.1; omega, h1.2⟩
theorem asc_lt : ∀ {R : List Rc} {a : Int}, asc a R → ∀ r ∈ R, a < r.i ∧ r.i ≤ 65535 ∧ chk r = 0
  | [], _, _, _, hr => by cases hr
  | s :: R, a, h, r, hr => by
    rcases List.mem_cons.1 hr with rfl | hr
    · exact ⟨h.1, h.2.1, h.2.2.1⟩
    · have h2 := asc_lt h.2.2.2 r hr
      have h3 := h.1
      exact ⟨by omega, h2.2⟩
theorem chk_in {r : Rc} (h : chk r = 0) : 0 ≤ r.k ∧ r.k < 4 ∧ 0 ≤ r.i ∧ r.i ≤ 65535 := by
  unfold chk at h
  split at h
  · omega
  · split at h
    · omega
    · omega
theorem fir_asc : ∀ {R : List Rc} {a : Int}, firE a R = 0 → asc a R
  | [], _, _ => trivial
  | r :: R, a, h => by
    have h' : (if wrE r a = 0 then firE r.i R else wrE r a) = 0 := h
    by_cases hw : wrE r a = 0
    · rw [if_pos hw] at h'
      have h1 := wrE_ok hw
      exact ⟨h1.2.2, (chk_in h1.1).2.2.2, h1.1, fir_asc h'⟩
    · rw [if_neg hw] at h'; exact absurd h' hw
theorem do_cons {x : En} {M : List En} {r : Rc} (hc : chk r = 0) (h : x.i < r.i) : doR (x :: M) r = consO x (doR M r) := by
  have e : findE r.i (x :: M) = findE r.i M := by show (if x.i = r.i then _ else _) = _; rw [if_neg (by omega)]
  unfold doR
  rw [e]
  cases hf : findE r.i M with
  | none =>
    dsimp only
    split
    · show some (if x.i < r.i then x :: ins (newE r) M else _) = _
      rw [if_pos h]; rfl
    · rfl
  | some y =>
    dsimp only
    split
    · rfl
    · split
      · show some (if x.i = r.i then M else x :: del r.i M) = _
        rw [if_neg (by omega)]; rfl
      · rename_i h0 h2
        have hy := (app_same (x := y) hc (find_i hf).1.symm h0 h2).2
        show some (if x.i < (appN y r).i then x :: ins (appN y r) M else _) = _
        rw [if_pos (by omega)]; rfl
theorem all_cons : ∀ {R : List Rc} {x : En} {M : List En}, (∀ r ∈ R, x.i < r.i ∧ chk r = 0) → doAll (x :: M) R = consO x (doAll M R)
  | [], _, _, _ => rfl
  | r :: R, x, M, h => by
    have h1 := h r (by simp)
    unfold doAll
    rw [do_cons h1.2 h1.1]
    cases doR M r with
    | none => rfl
    | some M' => exact all_cons (fun s hs => h s (by simp [hs]))
theorem apl_allN : ∀ (n : Nat) (M : List En) (R : List Rc) (a : Int), M.length + R.length < n → rise a M → asc a R → apl M R = doAll M R
  | 0, _, _, _, h, _, _ => absurd h (Nat.not_lt_zero _)
  | n + 1, M, [], a, _, _, _ => by rw [apl_nil]; rfl
  | n + 1, [], r :: R, a, hn, _, hr => by
    have ih := apl_allN n [] R r.i (by simp at hn ⊢; omega) trivial hr.2.2.2
    rw [apl_nc]
    unfold doAll doR
    dsimp only [findE]
    split
    · show consO (newE r) (apl [] R) = doAll [newE r] R
      rw [ih, all_cons (fun s hs => ⟨(asc_lt hr.2.2.2 s hs).1, (asc_lt hr.2.2.2 s hs).2.2⟩)]
    · rfl
  | n + 1, x :: M, r :: R, a, hn, hm, hr => by
    simp only [List.length_cons] at hn
    have hR : ∀ s ∈ r :: R, r.i ≤ s.i ∧ chk s = 0 := fun s hs => by
      rcases List.mem_cons.1 hs with rfl | hs
      · exact ⟨Int.le_refl _, hr.2.2.1⟩
      · have := asc_lt hr.2.2.2 s hs
        exact ⟨by omega, this.2.2⟩
    rw [apl_cc]
    by_cases h1 : x.i < r.i
    · rw [if_pos h1, apl_allN n M (r :: R) x.i (by simp; omega) hm.2.2 ⟨h1, hr.2⟩, all_cons (fun s hs => ⟨by have := (hR s hs).1; omega, (hR s hs).2⟩)]
    · rw [if_neg h1]
      have later : ∀ s ∈ R, r.i < s.i ∧ chk s = 0 := fun s hs => ⟨(asc_lt hr.2.2.2 s hs).1, (asc_lt hr.2.2.2 s hs).2.2⟩
      by_cases h2 : x.i = r.i
      · rw [if_pos h2]
        have e : findE r.i (x :: M) = some x := by show (if x.i = r.i then _ else _) = _; rw [if_pos h2]
        have hm' : rise r.i M := by rw [← h2]; exact hm.2.2
        unfold doAll doR
        rw [e]
        dsimp only
        by_cases k0 : r.k = 0
        · rw [if_pos k0, if_pos k0]
        · rw [if_neg k0, if_neg k0]
          by_cases k2 : r.k = 2
          · rw [if_pos k2, if_pos k2]
            show _ = doAll (if x.i = r.i then M else _) R
            rw [if_pos h2]
            exact apl_allN n M R r.i (by omega) hm' hr.2.2.2
          · rw [if_neg k2, if_neg k2]
            have hy := (app_same (x := x) hr.2.2.1 h2.symm k0 k2).2
            show _ = doAll (if x.i < (appN x r).i then _ else if x.i = (appN x r).i then appN x r :: M else _) R
            rw [if_neg (by omega), if_pos (by omega), all_cons (fun s hs => ⟨by have := (later s hs).1; omega, (later s hs).2⟩), apl_allN n M R r.i (by omega) hm' hr.2.2.2]
      · rw [if_neg h2]
        have e : findE r.i (x :: M) = none := by
          show (if x.i = r.i then _ else _) = _
          rw [if_neg h2]; exact find_low hm.2.2 (by omega)
        unfold doAll doR
        rw [e]
        dsimp only
        by_cases k0 : r.k = 0
        · rw [if_pos k0, if_pos k0]
          show _ = doAll (if x.i < r.i then _ else if x.i = r.i then _ else newE r :: x :: M) R
          rw [if_neg h1, if_neg h2, all_cons (fun s hs => ⟨(later s hs).1, (later s hs).2⟩), apl_allN n (x :: M) R r.i (by simp; omega) ⟨by omega, hm.2⟩ hr.2.2.2]
        · rw [if_neg k0, if_neg k0]
theorem apl_all (M : List En) (R : List Rc) (a : Int) (hm : rise a M) (hr : asc a R) : apl M R = doAll M R := apl_allN _ M R a (Nat.lt_succ_self _) hm hr
/-- Behind the records the Ids rise still. -/
theorem do_rise {M N : List En} {r : Rc} (hm : rise (-1) M) (hc : chk r = 0) (h : doR M r = some N) : rise (-1) N := by
  have hb := chk_in hc
  unfold doR at h
  cases hf : findE r.i M with
  | none =>
    rw [hf] at h
    dsimp only at h
    split at h
    · cases h; exact rise_ins hb.2.2.2 hm (by show -1 < r.i; omega)
    · cases h
  | some x =>
    rw [hf] at h
    dsimp only at h
    split at h
    · cases h
    · split at h
      · cases h; exact rise_del _ hm
      · rename_i h0 h2
        cases h
        have hy := (app_same (x := x) hc (find_i hf).1.symm h0 h2).2
        exact rise_ins (by omega) hm (by omega)
theorem do_len {M N : List En} {r : Rc} (hm : rise (-1) M) (h : doR M r = some N) : N.length ≤ M.length + 1 := by
  unfold doR at h
  have l1 : ∀ e : En, (ins e M).length ≤ M.length + 1 := fun e => by rw [len_ins hm]; split <;> omega
  have l2 := len_del r.i M
  cases hf : findE r.i M with
  | none =>
    rw [hf] at h
    dsimp only at h
    split at h
    · cases h; exact l1 _
    · cases h
  | some x =>
    rw [hf] at h
    dsimp only at h
    split at h
    · cases h
    · split at h
      · cases h; omega
      · cases h; exact l1 _

/-! what tells one row by another -/
def genO (o : Option En) : Int := match o with
  | some a => a.g
  | none => 0
def reachB (o : Option En) (b : En) : Bool := b.g == genO o || (isO o && b.g == (genO o + 1) % 256)
def chgL (o : Option En) (b : En) : List Rc := match o with
  | none => [putR b]
  | some a => if entB a b = true then [] else [difR a b]
def conR (l : List Rc) : Option (List Rc × List En) → Option (List Rc × List En)
  | none => none
  | some p => some (l ++ p.1, p.2)
def conA (a : En) : Option (List Rc × List En) → Option (List Rc × List En)
  | none => none
  | some p => some (p.1, a :: p.2)
def telR : List En → List En → Option (List Rc × List En)
  | M, [] => some ([], M)
  | M, b :: bs => if reachB (findE b.i M) b = true then conR (chgL (findE b.i M) b) (telR (del b.i M) bs) else none
theorem tel_cons : ∀ {bs : List En} {a : En} {M : List En}, (∀ b ∈ bs, a.i < b.i) → telR (a :: M) bs = conA a (telR M bs)
  | [], _, _, _ => rfl
  | b :: bs, a, M, h => by
    have h1 := h b (by simp)
    have e1 : findE b.i (a :: M) = findE b.i M := by show (if a.i = b.i then _ else _) = _; rw [if_neg (by omega)]
    have e2 : del b.i (a :: M) = a :: del b.i M := by show (if a.i = b.i then _ else _) = _; rw [if_neg (by omega)]
    have ih := tel_cons (bs := bs) (a := a) (M := del b.i M) (fun x hx => h x (by simp [hx]))
    unfold telR
    rw [e1, e2, ih]
    split
    · cases telR (del b.i M) bs with
      | none => rfl
      | some p => rfl
    · rfl
/-- The Ids rise. -/
def up : Int → List Rc → Prop
  | _, [] => True
  | last, r :: rs => last < r.i ∧ up r.i rs
theorem up_mono : ∀ {R : List Rc} {a b : Int}, a ≤ b → up b R → up a R
  | [], _, _, _, _ => trivial
  | r :: R, a, b, h, h1 => ⟨by have := h1.1; omega, h1.2⟩
theorem up_lt : ∀ {R : List Rc} {a : Int}, up a R → ∀ r ∈ R, a < r.i
  | [], _, _, _, hr => by cases hr
  | s :: R, a, h, r, hr => by
    rcases List.mem_cons.1 hr with rfl | hr
    · exact h.1
    · have := up_lt h.2 r hr
      have := h.1
      omega
theorem up_pair : ∀ {R : List Rc} {a : Int}, up a R → R.Pairwise (fun x y => x.i < y.i)
  | [], _, _ => List.Pairwise.nil
  | e :: L, a, h => List.pairwise_cons.2 ⟨fun x hx => up_lt h.2 x hx, up_pair h.2⟩
theorem dif_i {a b : En} (h : entB a b = false) : (difR a b).i = b.i := by
  unfold difR
  rw [h, if_neg (by simp)]
  split <;> rfl
/-- What the rows' merge says of the records by the entities in order. -/
def TelM (last : Int) (o : Option (List Rc)) (t : Option (List Rc × List En)) : Prop :=
  match o with
  | none => t = none
  | some R => ∃ p, t = some p ∧ R.Perm (p.1 ++ p.2.map remR) ∧ up last R
theorem tel_step_a {last : Int} {a : En} {o : Option (List Rc)} {t : Option (List Rc × List En)} (h : TelM a.i o t) (hl : last < a.i) : TelM last (consO (remR a) o) (conA a t) := by
  cases o with
  | none => have h' : t = none := h; subst h'; exact rfl
  | some R =>
    obtain ⟨p, rfl, hp, hu⟩ := h
    refine ⟨_, rfl, ?_, hl, hu⟩
    show (remR a :: R).Perm (p.1 ++ (a :: p.2).map remR)
    rw [List.map_cons]
    exact (hp.cons _).trans List.perm_middle.symm
theorem tel_step_b {last : Int} {r : Rc} {o : Option (List Rc)} {t : Option (List Rc × List En)} (h : TelM r.i o t) (hl : last < r.i) : TelM last (consO r o) (conR [r] t) := by
  cases o with
  | none => have h' : t = none := h; subst h'; exact rfl
  | some R =>
    obtain ⟨p, rfl, hp, hu⟩ := h
    exact ⟨_, rfl, hp.cons _, hl, hu⟩
theorem tel_up {last b : Int} (hl : last ≤ b) {o : Option (List Rc)} {t : Option (List Rc × List En)} (h : TelM b o t) : TelM last o t := by
  cases o with
  | none => exact h
  | some R => obtain ⟨p, h1, h2, h3⟩ := h; exact ⟨p, h1, h2, up_mono hl h3⟩
theorem tel_mrgN : ∀ (n : Nat) (A B : List En) (last : Int), A.length + B.length < n → rise last A → rise last B → TelM last (mrg A B) (telR A B)
  | 0, _, _, _, h, _, _ => absurd h (Nat.not_lt_zero _)
  | n + 1, [], [], last, _, _, _ => by rw [mrg_nn]; exact ⟨_, rfl, List.Perm.refl _, trivial⟩
  | n + 1, a :: al, [], last, hn, ha, hb => by
    have ih := tel_mrgN n al [] a.i (by simp at hn ⊢; omega) ha.2.2 trivial
    rw [mrg_cn]
    have := tel_step_a ih ha.1
    exact this
  | n + 1, [], b :: bs, last, hn, ha, hb => by
    have ih := tel_mrgN n [] bs b.i (by simp at hn ⊢; omega) trivial hb.2.2
    rw [mrg_nc]
    unfold telR
    have e1 : findE b.i [] = none := rfl
    have e2 : reachB none b = (b.g == 0) := by unfold reachB isO genO; simp
    rw [e1, e2]
    by_cases h : b.g = 0
    · rw [if_neg (by simp [h]), if_pos (by simp [h])]
      exact tel_step_b (r := putR b) ih hb.1
    · rw [if_pos h, if_neg (by simp [h])]
      rfl
  | n + 1, a :: al, b :: bs, last, hn, ha, hb => by
    simp only [List.length_cons] at hn
    rw [mrg_cc]
    by_cases h1 : a.i < b.i
    · rw [if_pos h1]
      have ih := tel_mrgN n al (b :: bs) a.i (by simp; omega) ha.2.2 ⟨h1, hb.2⟩
      rw [tel_cons (fun x hx => by
        rcases List.mem_cons.1 hx with rfl | hx
        · exact h1
        · have := (rise_lt hb.2.2 x hx).1; omega)]
      exact tel_step_a ih ha.1
    · rw [if_neg h1]
      by_cases h2 : b.i < a.i
      · rw [if_pos h2]
        have ih := tel_mrgN n (a :: al) bs b.i (by simp; omega) ⟨h2, ha.2⟩ hb.2.2
        have hlow : rise b.i (a :: al) := ⟨h2, ha.2⟩
        have e1 : findE b.i (a :: al) = none := find_low hlow (Int.le_refl _)
        have e2 : reachB none b = (b.g == 0) := by unfold reachB isO genO; simp
        unfold telR
        rw [e1, e2, del_low hlow (Int.le_refl _)]
        by_cases h : b.g = 0
        · rw [if_neg (by simp [h]), if_pos (by simp [h])]
          exact tel_step_b (r := putR b) ih hb.1
        · rw [if_pos h, if_neg (by simp [h])]
          rfl
      · rw [if_neg h2]
        have h3 : a.i = b.i := by omega
        have e1 : findE b.i (a :: al) = some a := by show (if a.i = b.i then _ else _) = _; rw [if_pos h3]
        have e4 : del b.i (a :: al) = al := by show (if a.i = b.i then _ else _) = _; rw [if_pos h3]
        have ih := tel_mrgN n al bs b.i (by omega) (by rw [← h3]; exact ha.2.2) hb.2.2
        have e2 : reachB (some a) b = (b.g == a.g || b.g == (a.g + 1) % 256) := by unfold reachB isO genO; simp
        unfold telR
        rw [e1, e2, e4]
        by_cases hg : b.g ≠ a.g ∧ b.g ≠ (a.g + 1) % 256
        · have hb' : ¬ (b.g == a.g || b.g == (a.g + 1) % 256) = true := by
            intro q
            rw [Bool.or_eq_true] at q
            rcases q with q | q
            · exact hg.1 (by simpa using q)
            · exact hg.2 (by simpa using q)
          rw [if_pos hg, if_neg hb']; rfl
        · have hb' : (b.g == a.g || b.g == (a.g + 1) % 256) = true := by
            rw [Bool.or_eq_true]
            by_cases q : b.g = a.g
            · exact Or.inl (by simp [q])
            · exact Or.inr (by
                have : b.g = (a.g + 1) % 256 := by omega
                simp [this])
          rw [if_neg hg, if_pos hb']
          by_cases he : entB a b = true
          · rw [if_pos he]
            have ec : chgL (some a) b = [] := by show (if entB a b = true then _ else _) = _; rw [if_pos he]
            rw [ec]
            have en : conR [] (telR al bs) = telR al bs := by cases telR al bs <;> rfl
            rw [en]
            exact tel_up (by have := hb.1; omega) ih
          · rw [if_neg he]
            have hef : entB a b = false := by simpa using he
            have ec : chgL (some a) b = [difR a b] := by show (if entB a b = true then _ else _) = _; rw [if_neg he]
            rw [ec]
            exact tel_step_b (r := difR a b) (by rw [dif_i hef]; exact ih) (by rw [dif_i hef]; exact hb.1)
theorem tel_mrg (A B : List En) (last : Int) (ha : rise last A) (hb : rise last B) : TelM last (mrg A B) (telR A B) := tel_mrgN _ A B last (Nat.lt_succ_self _) ha hb
theorem mrg_nil : ∀ (L : List En), mrg [] L = if ∃ x ∈ L, x.g ≠ 0 then none else some (L.map putR)
  | [] => by rw [mrg_nn]; simp
  | b :: bs => by
    have ih := mrg_nil bs
    rw [mrg_nc]
    by_cases h : b.g = 0
    · rw [if_neg (by simp [h]), ih]
      by_cases h2 : ∃ x ∈ bs, x.g ≠ 0
      · rw [if_pos h2, if_pos (by obtain ⟨x, hx, hg⟩ := h2; exact ⟨x, by simp [hx], hg⟩)]; rfl
      · rw [if_neg h2, if_neg (by rintro ⟨x, hx, hg⟩; rcases List.mem_cons.1 hx with rfl | hx; exact hg h; exact h2 ⟨x, hx, hg⟩)]; rfl
    · rw [if_pos h, if_pos ⟨b, by simp, h⟩]
/-- A row by rising Ids is the only sorted one of its records. -/
theorem up_only {R S : List Rc} {a : Int} (hu : up a R) (hp : R.Perm S) (hs : S.Pairwise (fun x y => x.i ≤ y.i)) : S = R := by
  refine (List.Perm.eq_of_pairwise (le := fun x y : Rc => x.i ≤ y.i) (fun x y hx hy h1 h2 => ?_) ((up_pair hu).imp (fun {a b} h => by omega)) hs hp).symm
  have hy' : y ∈ R := hp.mem_iff.2 hy
  have he : x.i = y.i := by omega
  have key : ∀ {R : List Rc} {a : Int}, up a R → ∀ x ∈ R, ∀ y ∈ R, x.i = y.i → x = y := by
    intro R
    induction R with
    | nil => intro a _ x hx; cases hx
    | cons r R ih =>
      intro a h x hx y hy he
      rcases List.mem_cons.1 hx with e1 | hx' <;> rcases List.mem_cons.1 hy with e2 | hy'
      · rw [e1, e2]
      · have := up_lt h.2 _ hy'; subst e1; omega
      · have := up_lt h.2 _ hx'; subst e2; omega
      · exact ih h.2 x hx' y hy' he
  exact key hu x hx y hy' he
theorem rise_inj : ∀ {L : List En} {a : Int}, rise a L → ∀ x ∈ L, ∀ y ∈ L, x.i = y.i → x = y := by
  intro L a h x hx y hy he
  have h1 := find_mem h x hx
  have h2 := find_mem h y hy
  rw [he, h2] at h1
  cases h1; rfl
theorem rise_only {R S : List En} {a : Int} (hu : rise a R) (hp : R.Perm S) (hs : S.Pairwise (fun x y => x.i ≤ y.i)) : S = R := by
  refine (List.Perm.eq_of_pairwise (le := fun x y : En => x.i ≤ y.i) (fun x y hx hy h1 h2 => ?_) ((rise_pair hu).imp (fun {a b} h => by omega)) hs hp).symm
  exact rise_inj hu x hx y (hp.mem_iff.2 hy) (by omega)
end Go.Proofs.YtokegpajjicehaaGreat

namespace Go.Proofs.YtokegpajjicehaaGreat
open Go.RowKit
open Go.ChangeShapes Go.WideShapes Go.ChangeAt
set_option linter.unusedVariables false
variable {H : Type} {enc : TypeId × Value → H}
def ents (L : List En) : List Value := L.flatMap entC
theorem ents_len : ∀ L : List En, (ents L).length = L.length * 9
  | [] => rfl
  | r :: L => by
    have := ents_len L
    unfold ents at this ⊢
    have e : (entC r).length = 9 := rfl
    rw [List.flatMap_cons, List.length_append, this, e, List.length_cons]
    omega
theorem ents_snoc (L : List En) (r : En) : ents (L ++ [r]) = ents L ++ entC r := by unfold ents; simp
theorem entC_one (r : En) : ∀ u ∈ entC r, u.oneCell' = true := by
  intro u hu
  simp only [entC, List.mem_cons, List.not_mem_nil, or_false] at hu
  rcases hu with h | h | h | h | h | h | h | h | h <;> rw [h] <;> rfl
theorem ents_at : ∀ (L : List En) (i j : Nat) (x : Value), i < L.length → (entC (L.getD i noEnt))[j]? = some x → (ents L)[i * 9 + j]? = some x
  | r :: L, 0, j, x, _, h => by
    have hj : j < 9 := (List.getElem?_eq_some_iff.1 h).1
    unfold ents
    rw [List.flatMap_cons, Nat.zero_mul, Nat.zero_add, List.getElem?_append_left (by exact hj)]
    exact h
  | r :: L, i + 1, j, x, hi, h => by
    have := ents_at L i j x (by simpa using hi) (by simpa using h)
    unfold ents at this ⊢
    rw [List.flatMap_cons, List.getElem?_append_right (by show 9 ≤ _; omega)]
    show (List.flatMap entC L)[(i + 1) * 9 + j - 9]? = some x
    rw [show (i + 1) * 9 + j - 9 = i * 9 + j by omega]
    exact this
/-- A value that a call owns, of these records. -/
def OwnE (w : World) (B : Nat) (v : Value) (L : List En) : Prop := w.ownsRow B 40 9 v L.length (ents L)
theorem OwnE.nil (w : World) (B : Nat) : OwnE w B (.slice none 0 0) [] := World.ownsRow_nil w B _ _
theorem OwnE.lt {w : World} {B : Nat} {v : Value} {L : List En} (h : OwnE w B v L) : ∀ k, v.ownBlock = some k → B ≤ k ∧ k < w.heap.size := World.ownsRow.lt h
theorem OwnE.below {w w' : World} {B : Nat} {v : Value} {L : List En} (h : OwnE w B v L) (hb : Below w.heap.size w w') : OwnE w' B v L := by
  refine ⟨h.1, ?_⟩
  rcases h.2 with hn | ⟨g, cap, cur, hv, hB, hg, rest⟩
  · exact Or.inl hn
  · exact Or.inr ⟨g, cap, cur, hv, hB, (hb.block g (Array.getElem?_eq_some_iff.1 hg).1).trans hg, rest⟩
theorem OwnE.grow {B B2 : Nat} {w w' : World} {u v v' : Value} {L : List En} (h : OwnE w B2 u L) (ha : Apart u v) (k : Grow B v w v' w') : OwnE w' B2 u L ∧ Apart u v' := by
  refine ⟨World.ownsRow.kept h k.by_ ha, ?_⟩
  rcases k.blk with e | e
  · unfold Apart at ha ⊢; rw [e]; exact ha
  · unfold Apart; rw [e]
    cases hb : u.ownBlock with
    | none => exact Or.inl rfl
    | some g =>
      right
      intro h'
      have := (h.lt g hb).2
      injection h' with h'
      omega
/-- The cells of record i. -/
theorem OwnE.cells {w : World} {B : Nat} {v : Value} {L : List En} (h : OwnE w B v L) (hl : L ≠ []) : ∃ g cap, v = .slice (some ⟨g, 0, none⟩) L.length cap ∧ B ≤ g ∧ g < w.heap.size ∧ L.length ≤ cap ∧ cap ≤ 9223372036854775807 ∧ ∀ i, i < L.length → ∀ j x, (entC (L.getD i noEnt))[j]? = some x → w.cell? ⟨g, i * 9 + j, none⟩ = some x := by
  have hp := List.length_pos_iff.2 hl
  rcases h.2 with ⟨_, h0⟩ | ⟨g, cap, cur, hv, hb, hg, hc, hm, hs, ht⟩
  · omega
  · refine ⟨g, cap, hv, hb, (Array.getElem?_eq_some_iff.1 hg).1, hc, hm, fun i hi j x hx => ?_⟩
    have hj : j < 9 := (List.getElem?_eq_some_iff.1 hx).1
    have e := ents_at L i j x hi hx
    rw [← ht, List.getElem?_take, if_pos (by omega)] at e
    rw [cell_of_row w g (i * 9 + j) cur _ (0, 0) hg]
    simpa using e
theorem infoE : (Tryz.prog.info? 40).map (fun i => (i.zero, i.size, i.bytes)) = some (some (entV noEnt), 9, 64) := by kernel_rfl
theorem OwnE.row {w : World} {B : Nat} {v : Value} {L : List En} (h : OwnE w B v L) : ∀ k, v.ownBlock = some k → B ≤ k := fun k hk => (h.lt k hk).1
theorem growE_op {w : World} {o : Oper} {a : Act} {K : Act → World → Prop} {Q : Exit → Act → World → Prop} (s x : Operand)
    (ho : o.op = .call { callee := .builtin .append, args := #[s, x], argTypes := #[22, 22] })
    (B : Nat) (v : Value) (L : List En) (hs : a.eval s = v) (hown : OwnE w B v L) (g0 : Nat) (r : En) (hx : a.eval x = .slice (some ⟨g0, 0, none⟩) 1 1)
    (hr : ∀ j u, (entC r)[j]? = some u → w.cell? ⟨g0, j, none⟩ = some u) (hlen : L.length ≤ 1000000) (hB : B ≤ w.heap.size)
    (h : ∀ v' w', OwnE w' B v' (L ++ [r]) → Grow B v w v' w' → K (a.put o.dst v') w') : o.wp Tryz.prog a w K Q := by
  obtain ⟨i0, hi, hz0, hz1, hz2⟩ := info_parts infoE
  refine wp_append_lies w s x 22 ho B 40 i0 (entV noEnt) 9 64 Tryz.underlying22 hi hz0 hz1 hz2 rfl (by decide) v L.length (ents L) hs hown ⟨g0, 0, none⟩ 1 1 (entC r) hx rfl (fun j u hu => by rw [Addr.add_lit, Nat.zero_add]; exact hr j u hu) (entC_one r) (by omega) (by unfold maxLen; omega) (by omega) hB w.heap.size rfl ?_
  intro g cap' w' hown' hgrow hor hlt
  refine h _ w' ?_ ⟨(Below.refl B w).grown hgrow hB hown.row, hgrow, ?_⟩
  · unfold OwnE
    rw [List.length_append, ents_snoc]
    exact hown'
  · rcases hor with e | e
    · exact Or.inl e.symm
    · right; rw [e]; rfl
theorem growE_step {w : World} {ops : Array Oper} {o : Oper} {a : Act} {K : Act → World → Prop} {Q : Exit → Act → World → Prop} {E : Prop} (hgd : o.guard = none) (d : Option Nat) (hd : o.dst = d) (s x : Operand)
    (ho : o.op = .call { callee := .builtin .append, args := #[s, x], argTypes := #[22, 22] })
    (B : Nat) (v : Value) (L : List En) (hs : a.eval s = v) (hown : OwnE w B v L) (g0 : Nat) (r : En) (hx : a.eval x = .slice (some ⟨g0, 0, none⟩) 1 1)
    (hr : ∀ j u, (entC r)[j]? = some u → w.cell? ⟨g0, j, none⟩ = some u) (hlen : L.length ≤ 1000000) (hB : B ≤ w.heap.size)
    (h : ∀ v' w', OwnE w' B v' (L ++ [r]) → Grow B v w v' w' → K (a.put d v') w') :
    if Region.wanted o (yielded ops a.tmps) = true then Oper.wp Tryz.prog o a w K Q else E := by
  subst hd
  have hw : Region.wanted o (yielded ops a.tmps) = true := by simp [Region.wanted, hgd]
  rw [if_pos hw]
  exact growE_op s x ho B v L hs hown g0 r hx hr hlen hB h
theorem OwnE.form {w : World} {B : Nat} {v : Value} {L : List En} (h : OwnE w B v L) : ∃ ao cap, v = .slice ao L.length cap := by
  rcases h.2 with ⟨rfl, h0⟩ | ⟨g, cap, cur, hv, _⟩
  · exact ⟨none, 0, by rw [h0]⟩
  · exact ⟨_, cap, hv⟩
theorem growE_wp {w : World} {ops : Array Oper} {rest : List Oper} {o : Oper} {a : Act} {Q : Exit → Act → World → Prop} (hgd : o.guard = none) (s x : Operand)
    (ho : o.op = .call { callee := .builtin .append, args := #[s, x], argTypes := #[22, 22] })
    (B : Nat) (v : Value) (L : List En) (hs : a.eval s = v) (hown : OwnE w B v L) (g0 : Nat) (r : En) (hx : a.eval x = .slice (some ⟨g0, 0, none⟩) 1 1)
    (hr : ∀ j u, (entC r)[j]? = some u → w.cell? ⟨g0, j, none⟩ = some u) (hlen : L.length ≤ 1000000) (hB : B ≤ w.heap.size)
    (h : ∀ v' w', OwnE w' B v' (L ++ [r]) → Grow B v w v' w' → wpList Tryz.prog ops Q rest (a.put o.dst v') w') : wpList Tryz.prog ops Q (o :: rest) a w :=
  wpList_plain hgd fun K hK => growE_op s x ho B v L hs hown g0 r hx hr hlen hB fun v' w' h1 h2 => hK _ _ (h v' w' h1 h2)
/-- A value that reads as these records, by their places. -/
def RdE (w : World) (v : Value) (n : Nat) (A : Nat → En) : Prop :=
  ∃ ao cap, v = .slice ao n cap ∧ n ≤ cap ∧ cap ≤ 9223372036854775807 ∧ (n = 0 ∨ ∃ b o, ao = some ⟨b, o, none⟩ ∧ ∀ i, i < n → ∀ j x, (entC (A i))[j]? = some x → w.cell? ⟨b, o + i * 9 + j, none⟩ = some x)
set_option maxRecDepth 20000 in
theorem open_ents {W : World} {base : Nat} {v : Value} {d : DataW H} {p : List MemPlace} (hval : Value.okWide Tryz.prog W .any base 22 v) (h : DataW.Trod enc Tryz.prog W 0 (fun _ => true) true 22 v d p) :
    ∃ (n : Nat) (A : Nat → En), (∀ i, i < n → (A i).ok) ∧ RdE W v n A := by
  obtain ⟨a1, len, cap1, rfl⟩ := okWide_slice Tryz.underlying22 hval
  obtain ⟨fuel, hf⟩ := h
  rcases Go.Deep.open_slice Tryz.underlying22 hf with ⟨hcs, hx⟩ | ⟨a, len2, cap, m, n, D, Pl, hcs, _, hl, hm, hmm, hx, hel⟩
  · simp [Value.cells] at hcs
    obtain ⟨rfl, rfl, rfl⟩ := hcs
    exact ⟨0, fun _ => noEnt, fun i hi => by omega, none, 0, rfl, Nat.le_refl _, by omega, Or.inl rfl⟩
  · simp [Value.cells] at hcs
    obtain ⟨rfl, rfl, rfl⟩ := hcs
    simp only [if_true] at hmm
    subst hmm
    rw [cells_ent] at hel
    have each : ∀ i, i < m → ∃ r : En, (∀ j x, (entC r)[j]? = some x → W.cell? (a.add (i * 9 + j)) = some x) ∧ r.ok := by
      intro i hi
      obtain ⟨cs', h1, h2⟩ := hel i hi
      obtain ⟨_, hlen, hcell⟩ := World.cells?_some h1
      obtain ⟨r, rfl, ok⟩ := trod_ent h2
      refine ⟨r, fun j x hj => ?_, ok⟩
      have hj' : j < 9 := (List.getElem?_eq_some_iff.1 hj).1
      have c := hcell j (by exact hj')
      rw [Go.Deep.add_add] at c
      rw [c]; exact hj
    haveI : Inhabited En := ⟨noEnt⟩
    obtain ⟨A, hA⟩ := Go.Deep.choose_lt each
    refine ⟨len, A, fun i hi => (hA i (by omega)).2, some a, m, rfl, hl, hm, ?_⟩
    by_cases h0 : len = 0
    · exact Or.inl h0
    · right
      obtain ⟨ab, ao, spot⟩ := a
      have hspot : spot = none := by simpa [Addr.add] using World.cell?_spot ((hA 0 (by omega)).1 0 _ rfl)
      subst hspot
      refine ⟨ab, ao, rfl, fun i hi j x hj => ?_⟩
      have := (hA i (by omega)).1 j x hj
      simp only [Addr.add_lit] at this
      rw [Nat.add_assoc]; exact this
theorem RdE.below {w w' : World} {v : Value} {n : Nat} {A : Nat → En} (h : RdE w v n A) (hb : Below w.heap.size w w') : RdE w' v n A := by
  obtain ⟨ao, cap, rfl, h1, h2, h3⟩ := h
  refine ⟨ao, cap, rfl, h1, h2, ?_⟩
  rcases h3 with h | ⟨b, o, rfl, h⟩
  · exact Or.inl h
  · refine Or.inr ⟨b, o, rfl, fun i hi j x hj => ?_⟩
    have c := h i hi j x hj
    exact (hb.cell (p := ⟨b, o + i * 9 + j, none⟩) (World.block_lt_of_cell? w _ c)).trans c
theorem RdE.none (w : World) : RdE w (.slice .none 0 0) 0 (fun _ => noEnt) := ⟨.none, 0, rfl, Nat.le_refl _, by omega, Or.inl rfl⟩
/-- Records that the call owns are read, by their places. -/
theorem OwnE.rdR {w : World} {B : Nat} {v : Value} {L : List En} (h : OwnE w B v L) : RdE w v L.length (fun i => L.getD i noEnt) := by
  by_cases hl : L = []
  · subst hl
    rcases h.2 with ⟨e, _⟩ | ⟨g, cap, cur, hv, hb, hg, hc, hm, hs, ht⟩
    · subst e
      exact ⟨none, 0, rfl, Nat.le_refl _, by omega, Or.inl rfl⟩
    · subst hv
      exact ⟨_, cap, rfl, hc, hm, Or.inl rfl⟩
  · obtain ⟨g, cap, rfl, h1, h2, h3, h4, h5⟩ := h.cells hl
    exact ⟨_, cap, rfl, h3, h4, Or.inr ⟨g, 0, rfl, fun i hi j x hx => by simpa using h5 i hi j x hx⟩⟩
end Go.Proofs.YtokegpajjicehaaGreat
