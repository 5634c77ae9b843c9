/-
  Texts Dl19, Dl20 in one.
-/
import Derived.Maps.OwnSet
import Derived.Test.YtfoblmambbfphaaGreatP27
namespace Go.Proofs.YtfoblmambbfphaaGreat
open Go.RowKit
set_option linter.unusedVariables false

/-- Each record's Id, in one row and the other one; each entity that is not told is as it was. -/
structure Says (A B : List En) (R : List Rc) : Prop where
  a : ∀ r ∈ R, isO (findE r.i A) = decide (r.k ≠ 0)
  b : ∀ r ∈ R, isO (findE r.i B) = decide (r.k ≠ 2)
  ne : ∀ r ∈ R, ∀ x y, findE r.i A = some x → findE r.i B = some y → entB x y = false
  un : ∀ x ∈ B, (∃ r ∈ R, r.i = x.i) ∨ findE x.i A = some x
theorem find_skip {a : En} {L : List En} {id : Int} (h : a.i ≠ id) : findE id (a :: L) = findE id L := by
  show (if a.i = id then some a else findE id L) = _
  rw [if_neg h]
theorem find_here {a : En} {L : List En} {id : Int} (h : a.i = id) : findE id (a :: L) = some a := by
  show (if a.i = id then some a else findE id L) = _
  rw [if_pos h]
theorem Says.lt {A B : List En} {R : List Rc} {l : Int} (h : Says A B R) (ha : rise l A) (hb : rise l B) : ∀ r ∈ R, l < r.i := by
  intro r hr
  by_cases hk : r.k = 0
  · have h1 := h.b r hr
    cases hf : findE r.i B with
    | none => rw [hf, hk] at h1; simp [isO] at h1
    | some x =>
      have h2 := find_i hf
      have := (rise_lt hb x h2.2).1
      omega
  · have h1 := h.a r hr
    cases hf : findE r.i A with
    | none => rw [hf] at h1; simp [isO, hk] at h1
    | some x =>
      have h2 := find_i hf
      have := (rise_lt ha x h2.2).1
      omega
theorem says_a {a : En} {al B : List En} {R : List Rc} (h : Says al B R) (hl : ∀ r ∈ R, a.i < r.i) (hB : ∀ x ∈ B, a.i < x.i) : Says (a :: al) B (remR a :: R) := by
  have e : findE a.i B = none := find_none (fun x hx => by have := hB x hx; omega)
  refine ⟨fun r hr => ?_, fun r hr => ?_, fun r hr x y hx hy => ?_, fun x hx => ?_⟩
  · rcases List.mem_cons.1 hr with rfl | hr
    · rw [find_here (show a.i = (remR a).i from rfl)]; simp [isO, remR]
    · rw [find_skip (by have := hl r hr; omega)]; exact h.a r hr
  · rcases List.mem_cons.1 hr with rfl | hr
    · show isO (findE a.i B) = _
      rw [e]; simp [isO, remR]
    · exact h.b r hr
  · rcases List.mem_cons.1 hr with rfl | hr
    · have : findE a.i B = some y := hy
      rw [e] at this; cases this
    · rw [find_skip (by have := hl r hr; omega)] at hx; exact h.ne r hr x y hx hy
  · rcases h.un x hx with ⟨r, hr, hi⟩ | hf
    · exact Or.inl ⟨r, by simp [hr], hi⟩
    · exact Or.inr (by rw [find_skip (by have := hB x hx; omega)]; exact hf)
theorem says_b {b : En} {A bs : List En} {R : List Rc} (h : Says A bs R) (hl : ∀ r ∈ R, b.i < r.i) (hA : ∀ x ∈ A, b.i < x.i) : Says A (b :: bs) (putR b :: R) := by
  have e : findE b.i A = none := find_none (fun x hx => by have := hA x hx; omega)
  refine ⟨fun r hr => ?_, fun r hr => ?_, fun r hr x y hx hy => ?_, fun x hx => ?_⟩
  · rcases List.mem_cons.1 hr with rfl | hr
    · show isO (findE b.i A) = _
      rw [e]; simp [isO, putR]
    · exact h.a r hr
  · rcases List.mem_cons.1 hr with rfl | hr
    · rw [find_here (show b.i = (putR b).i from rfl)]; simp [isO, putR]
    · rw [find_skip (by have := hl r hr; omega)]; exact h.b r hr
  · rcases List.mem_cons.1 hr with rfl | hr
    · have : findE b.i A = some x := hx
      rw [e] at this; cases this
    · rw [find_skip (by have := hl r hr; omega)] at hy; exact h.ne r hr x y hx hy
  · rcases List.mem_cons.1 hx with rfl | hx
    · exact Or.inl ⟨putR x, by simp, rfl⟩
    · rcases h.un x hx with ⟨r, hr, hi⟩ | hf
      · exact Or.inl ⟨r, by simp [hr], hi⟩
      · exact Or.inr hf
theorem dif_k {a b : En} (h : entB a b = false) : (difR a b).k ≠ 0 ∧ (difR a b).k ≠ 2 := by
  unfold difR
  rw [h, if_neg (by simp)]
  split
  · exact ⟨by show (1 : Int) ≠ 0; decide, by show (1 : Int) ≠ 2; decide⟩
  · exact ⟨by show (3 : Int) ≠ 0; decide, by show (3 : Int) ≠ 2; decide⟩
theorem says_e {a b : En} {al bs : List En} {R : List Rc} (h : Says al bs R) (hi : a.i = b.i) (hl : ∀ r ∈ R, b.i < r.i) (hb : ∀ x ∈ bs, b.i < x.i) (he : entB a b = true) : Says (a :: al) (b :: bs) R := by
  have e := (entB_iff a b).1 he
  subst e
  refine ⟨fun r hr => ?_, fun r hr => ?_, fun r hr x y hx hy => ?_, fun x hx => ?_⟩
  · rw [find_skip (by have := hl r hr; omega)]; exact h.a r hr
  · rw [find_skip (by have := hl r hr; omega)]; exact h.b r hr
  · rw [find_skip (by have := hl r hr; omega)] at hx hy; exact h.ne r hr x y hx hy
  · rcases List.mem_cons.1 hx with rfl | hx
    · exact Or.inr (find_here rfl)
    · rcases h.un x hx with ⟨r, hr, hi⟩ | hf
      · exact Or.inl ⟨r, hr, hi⟩
      · exact Or.inr (by rw [find_skip (by have := hb x hx; omega)]; exact hf)
theorem says_d {a b : En} {al bs : List En} {R : List Rc} (h : Says al bs R) (hi : a.i = b.i) (hl : ∀ r ∈ R, b.i < r.i) (hb : ∀ x ∈ bs, b.i < x.i) (he : entB a b = false) : Says (a :: al) (b :: bs) (difR a b :: R) := by
  have e := dif_i he
  have hk := dif_k he
  refine ⟨fun r hr => ?_, fun r hr => ?_, fun r hr x y hx hy => ?_, fun x hx => ?_⟩
  · rcases List.mem_cons.1 hr with rfl | hr
    · rw [e, find_here hi]; simp [isO, hk.1]
    · rw [find_skip (by have := hl r hr; omega)]; exact h.a r hr
  · rcases List.mem_cons.1 hr with rfl | hr
    · rw [e, find_here rfl]; simp [isO, hk.2]
    · rw [find_skip (by have := hl r hr; omega)]; exact h.b r hr
  · rcases List.mem_cons.1 hr with rfl | hr
    · rw [e, find_here hi] at hx
      rw [e, find_here rfl] at hy
      cases hx; cases hy; exact he
    · rw [find_skip (by have := hl r hr; omega)] at hx hy; exact h.ne r hr x y hx hy
  · rcases List.mem_cons.1 hx with rfl | hx
    · exact Or.inl ⟨difR a x, by simp, e⟩
    · rcases h.un x hx with ⟨r, hr, hi⟩ | hf
      · exact Or.inl ⟨r, by simp [hr], hi⟩
      · exact Or.inr (by rw [find_skip (by have := hb x hx; omega)]; exact hf)
theorem mrg_saysN : ∀ (n : Nat) (A B : List En) (last : Int) (R : List Rc), A.length + B.length < n → rise last A → rise last B → mrg A B = some R → Says A B R
  | 0, _, _, _, _, h, _, _, _ => absurd h (Nat.not_lt_zero _)
  | n + 1, [], [], last, R, _, _, _, h => by
    rw [mrg_nn] at h
    cases h
    exact ⟨fun r hr => (by cases hr), fun r hr => (by cases hr), fun r hr => (by cases hr), fun x hx => (by cases hx)⟩
  | n + 1, a :: al, [], last, R, hn, ha, hb, h => by
    rw [mrg_cn] at h
    obtain ⟨S, hS, rfl⟩ := consO_some h
    have ih := mrg_saysN n al [] a.i S (by simp at hn ⊢; omega) ha.2.2 trivial hS
    exact says_a ih (ih.lt ha.2.2 trivial) (fun x hx => by cases hx)
  | n + 1, [], b :: bs, last, R, hn, ha, hb, h => by
    rw [mrg_nc] at h
    split at h
    · cases h
    · obtain ⟨S, hS, rfl⟩ := consO_some h
      have ih := mrg_saysN n [] bs b.i S (by simp at hn ⊢; omega) trivial hb.2.2 hS
      exact says_b ih (ih.lt trivial hb.2.2) (fun x hx => by cases hx)
  | n + 1, a :: al, b :: bs, last, R, hn, ha, hb, h => by
    simp only [List.length_cons] at hn
    rw [mrg_cc] at h
    split at h
    · rename_i h1
      obtain ⟨S, hS, rfl⟩ := consO_some h
      have hb' : rise a.i (b :: bs) := ⟨h1, hb.2⟩
      have ih := mrg_saysN n al (b :: bs) a.i S (by simp; omega) ha.2.2 hb' hS
      exact says_a ih (ih.lt ha.2.2 hb') (fun x hx => (rise_lt hb' x hx).1)
    · rename_i h1
      split at h
      · rename_i h2
        split at h
        · cases h
        · obtain ⟨S, hS, rfl⟩ := consO_some h
          have ha' : rise b.i (a :: al) := ⟨h2, ha.2⟩
          have ih := mrg_saysN n (a :: al) bs b.i S (by simp; omega) ha' hb.2.2 hS
          exact says_b ih (ih.lt ha' hb.2.2) (fun x hx => (rise_lt ha' x hx).1)
      · rename_i h2
        have hi : a.i = b.i := by omega
        have ha' : rise b.i al := by rw [← hi]; exact ha.2.2
        split at h
        · cases h
        · split at h
          · rename_i he
            have ih := mrg_saysN n al bs b.i R (by omega) ha' hb.2.2 h
            exact says_e ih hi (ih.lt ha' hb.2.2) (fun x hx => (rise_lt hb.2.2 x hx).1) he
          · rename_i he
            obtain ⟨S, hS, rfl⟩ := consO_some h
            have ih := mrg_saysN n al bs b.i S (by omega) ha' hb.2.2 hS
            exact says_d ih hi (ih.lt ha' hb.2.2) (fun x hx => (rise_lt hb.2.2 x hx).1) (by simpa using he)
theorem mrg_says {A B : List En} {last : Int} {R : List Rc} (ha : rise last A) (hb : rise last B) (h : mrg A B = some R) : Says A B R := mrg_saysN _ A B last R (Nat.lt_succ_self _) ha hb h

/-! a map of Ids -/
/-- Block b is a map that holds these Ids. -/
def MapB (w : World) (b : Nat) (S : List Int) : Prop := ∃ D n, w.ownsMap Tryz.prog 3 RV b n D ∧ n ≤ S.length ∧ Go.Maps.IsMap D ∧ ∀ x : Int, S64 x → D.atKey (.int .i64 x) (.held (.bool false)) = .held (.bool (decide (x ∈ S)))
theorem zeroBool (w : World) : (zeroValue 4).run Tryz.prog w = .ok (.bool false) w := by kernel_rfl
theorem MapB.lt {w : World} {b : Nat} {S : List Int} (h : MapB w b S) : b < w.heap.size := by obtain ⟨_, _, h, _⟩ := h; exact h.lt
theorem MapB.made (w : World) : MapB (w.alloc (.map #[] 0)) w.heap.size [] := ⟨_, _, World.ownsMap_made w _ _ _, Nat.le_refl _, ⟨_, rfl⟩, fun _ _ => rfl⟩
theorem MapB.kept {w w' : World} {row : Option Nat} {b : Nat} {S : List Int} (h : MapB w b S) (hg : w.grownBy w' row) (hne : some b ≠ row) : MapB w' b S := by
  obtain ⟨D, n, h1, h2⟩ := h
  exact ⟨D, n, h1.kept hg hne, h2⟩
theorem MapB.below {w w' : World} {b : Nat} {S : List Int} (h : MapB w b S) (hb : Below w.heap.size w w') : MapB w' b S := h.kept (below_by hb) (by simp)
section
variable {w : World} {ops : Array Oper} {rest : List Oper} {o : Oper} {a : Act} {Q : Exit → Act → World → Prop}
theorem lookB_wp (hg : o.guard = none) (m x : Operand) (hop : o.op = Op.lookup 63 m x false) (b : Nat) (S : List Int) (hm : a.eval m = .map (some b)) (h : MapB w b S) (k : Int) (hx : a.eval x = .int .i64 k) (hk : S64 k)
    (hK : wpList Tryz.prog ops Q rest (a.put o.dst (.bool (decide (k ∈ S)))) w) : wpList Tryz.prog ops Q (o :: rest) a w := by
  obtain ⟨D, n, h1, h2, h3, h4⟩ := h
  refine wpList_plain hg fun K' hK' => ?_
  obtain ⟨v, ps, hrun, hv⟩ := h1.lookup law_int Tryz.underlying63 (zeroBool w) (zd := .held (.bool false)) (zp := []) rfl (Go.Maps.keyOf_int_mk Tryz.underlying3 (wfS hk))
  rw [h4 k hk] at hv
  have e : v = .bool (decide (k ∈ S)) := by simp [RV] at hv; exact hv.1
  subst e
  unfold Oper.wp
  simp [execOp, hop, hm, hx, hrun, Result.andThen]
  exact hK' _ _ hK
theorem storeB_wp (hg : o.guard = none) (m x v : Operand) (hop : o.op = Op.mapUpdate 63 m x v) (b : Nat) (S : List Int) (hm : a.eval m = .map (some b)) (h : MapB w b S) (hS : S.length ≤ 1000) (k : Int) (hx : a.eval x = .int .i64 k) (hv : a.eval v = .bool true) (hk : S64 k)
    (hK : ∀ w', MapB w' b (S ++ [k]) → w.grownBy w' (some b) → wpList Tryz.prog ops Q rest (a.put o.dst undef) w') : wpList Tryz.prog ops Q (o :: rest) a w := by
  obtain ⟨D, n, h1, h2, h3, h4⟩ := h
  refine wpList_mapUpdate_own _ hg m x v 63 hop 3 4 law_int Tryz.underlying63 RV b n D hm h1 (by unfold maxLen; omega) _ _ (.int .i64 k) hx hv (Go.Maps.keyOf_int_mk Tryz.underlying3 (wfS hk)) (.held (.bool true)) [] rfl ?_
  intro w' h1' hg'
  refine hK w' ⟨_, _, h1', by simp; omega, h3.put _ _, fun y hy => ?_⟩ hg'
  by_cases e : y = k
  · subst e
    rw [Go.Maps.atKey_put_same h3 (keyLit hy)]
    simp
  · rw [Go.Maps.atKey_put_other (by intro q; injection q with _ q; exact e q), h4 y hy]
    simp [e]
end
end Go.Proofs.YtfoblmambbfphaaGreat

namespace Go.Proofs.YtfoblmambbfphaaGreat
open Go.RowKit
set_option linter.unusedVariables false

def idsTo (L : List Rc) (k : Nat) : List Int := (pre (atR L) k).map (·.i)
theorem idsTo_zero (L : List Rc) : idsTo L 0 = [] := rfl
theorem idsTo_succ (L : List Rc) (k : Nat) : idsTo L (k + 1) = idsTo L k ++ [(atR L k).i] := by unfold idsTo; rw [pre_succ, List.map_append]; rfl
theorem idsTo_len (L : List Rc) (k : Nat) : (idsTo L k).length = k := by unfold idsTo; rw [List.length_map, pre_len]
theorem idsTo_all (L : List Rc) : idsTo L L.length = L.map (·.i) := by unfold idsTo; rw [pre_atR]
theorem atR_mem {L : List Rc} {k : Nat} (h : k < L.length) : atR L k ∈ L := by
  have e : atR L k = L[k] := by unfold atR; simp [List.getD, h]
  rw [e]; exact List.getElem_mem h
theorem asc_next : ∀ {L : List Rc} {a : Int}, asc a L → ∀ j, j + 1 < L.length → (atR L j).i < (atR L (j + 1)).i
  | [], _, _, j, h => by simp at h
  | [r], _, _, j, h => by simp at h
  | r :: s :: L, a, h, 0, _ => h.2.2.2.1
  | r :: s :: L, a, h, j + 1, hj => asc_next (L := s :: L) h.2.2.2 j (by simp at hj ⊢; omega)
theorem get_ne {o p : Option En} (h : ∀ x y, o = some x → p = some y → entB x y = false) : isO o = true → isO p = true → entB (getE o) (getE p) = false := by
  cases o <;> cases p <;> simp [isO, getE] at *
  exact h
/-- What each record of a datagram that tells one by another one says. -/
theorem rec_says {t m : Int} {L : List En} {t' m' : Int} {L' : List En} (h : dlE t m L t' m' L' = 0) (oa : ∀ x ∈ L, x.ok) (ob : ∀ x ∈ L', x.ok) :
    (∀ k, k < (dlL t m L t' m' L').length → 0 ≤ (atR (dlL t m L t' m' L') k).i ∧ (atR (dlL t m L t' m' L') k).i ≤ 65535 ∧
      isO (findE (atR (dlL t m L t' m' L') k).i L) = decide ((atR (dlL t m L t' m' L') k).k ≠ 0) ∧ isO (findE (atR (dlL t m L t' m' L') k).i L') = decide ((atR (dlL t m L t' m' L') k).k ≠ 2) ∧
      (isO (findE (atR (dlL t m L t' m' L') k).i L) = true → isO (findE (atR (dlL t m L t' m' L') k).i L') = true → entB (getE (findE (atR (dlL t m L t' m' L') k).i L)) (getE (findE (atR (dlL t m L t' m' L') k).i L')) = false)) ∧
    (∀ j, j + 1 < (dlL t m L t' m' L').length → (atR (dlL t m L t' m' L') j).i < (atR (dlL t m L t' m' L') (j + 1)).i) ∧
    (∀ x ∈ L', x.i ∈ idsTo (dlL t m L t' m' L') (dlL t m L t' m' L').length ∨ findE x.i L = some x) ∧ (dlL t m L t' m' L').length ≤ 128 := by
  obtain ⟨h1, h2, h3, h4, h5, h6⟩ := dl_told h oa ob
  obtain ⟨a0, a1, a2, a3, a4⟩ := sn_ok h1
  obtain ⟨b0, b1, b2, b3, b4⟩ := sn_ok h2
  have hs := mrg_says a4 b4 h5
  refine ⟨fun k hk => ?_, asc_next h6.asc_, fun x hx => ?_, by have := h6.len; omega⟩
  · have hm := atR_mem hk
    have ha := asc_lt h6.asc_ _ hm
    exact ⟨by omega, ha.2.1, hs.a _ hm, hs.b _ hm, get_ne (hs.ne _ hm)⟩
  · rcases hs.un x hx with ⟨r, hr, hi⟩ | hf
    · exact Or.inl (by rw [idsTo_all]; exact List.mem_map.2 ⟨r, hr, hi⟩)
    · exact Or.inr hf
end Go.Proofs.YtfoblmambbfphaaGreat
