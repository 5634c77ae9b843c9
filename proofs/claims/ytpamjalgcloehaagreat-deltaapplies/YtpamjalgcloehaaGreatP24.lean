/-
  Texts Dl19, Dl20, Dl21, Dl22, Dl23 in one.
-/
import Derived.Maps.OwnSet
import Derived.Maps.AppendAt
import Derived.Laws.OwnMore
import Derived.Test.YtpamjalgcloehaaGreatP23
namespace Go.Proofs.YtpamjalgcloehaaGreat
open Go.RowKit
set_option linter.unusedVariables false

/-- Each record's Id, in one row and the other one; each entity that is not told is as it was. -/
structure Says (A B : List En) (R : List Rc) : Prop where
  a : ∀ r ∈ R, isO (findE r.i A) = decide (r.k ≠ 0)
  b : ∀ r ∈ R, isO (findE r.i B) = decide (r.k ≠ 2)
  ne : ∀ r ∈ R, ∀ x y, findE r.i A = some x → findE r.i B = some y → entB x y = false
  un : ∀ x ∈ B, (∃ r ∈ R, r.i = x.i) ∨ findE x.i A = some x
theorem find_skip {a : En} {L : List En} {id : Int} (h : a.i ≠ id) : findE id (a :: L) = findE id L := by
  show (if a.i = id then some a else findE id L) = _
  rw [if_neg h]
theorem find_here {a : En} {L : List En} {id : Int} (h : a.i = id) : findE id (a :: L) = some a := by
  show (if a.i = id then some a else findE id L) = _
  rw [if_pos h]
theorem Says.lt {A B : List En} {R : List Rc} {l : Int} (h : Says A B R) (ha : rise l A) (hb : rise l B) : ∀ r ∈ R, l < r.i := by
  intro r hr
  by_cases hk : r.k = 0
  · have h1 := h.b r hr
    cases hf : findE r.i B with
    | none => rw [hf, hk] at h1; simp [isO] at h1
    | some x =>
      have h2 := find_i hf
      have := (rise_lt hb x h2.2).1
      omega
  · have h1 := h.a r hr
    cases hf : findE r.i A with
    | none => rw [hf] at h1; simp [isO, hk] at h1
    | some x =>
      have h2 := find_i hf
      have := (rise_lt ha x h2.2).1
      omega
theorem says_a {a : En} {al B : List En} {R : List Rc} (h : Says al B R) (hl : ∀ r ∈ R, a.i < r.i) (hB : ∀ x ∈ B, a.i < x.i) : Says (a :: al) B (remR a :: R) := by
  have e : findE a.i B = none := find_none (fun x hx => by have := hB x hx; omega)
  refine ⟨fun r hr => ?_, fun r hr => ?_, fun r hr x y hx hy => ?_, fun x hx => ?_⟩
  · rcases List.mem_cons.1 hr with rfl | hr
    · rw [find_here (show a.i = (remR a).i from rfl)]; simp [isO, remR]
    · rw [find_skip (by have := hl r hr; omega)]; exact h.a r hr
  · rcases List.mem_cons.1 hr with rfl | hr
    · show isO (findE a.i B) = _
      rw [e]; simp [isO, remR]
    · exact h.b r hr
  · rcases List.mem_cons.1 hr with rfl | hr
    · have : findE a.i B = some y := hy
      rw [e] at this; cases this
    · rw [find_skip (by have := hl r hr; omega)] at hx; exact h.ne r hr x y hx hy
  · rcases h.un x hx with ⟨r, hr, hi⟩ | hf
    · exact Or.inl ⟨r, by simp [hr], hi⟩
    · exact Or.inr (by rw [find_skip (by have := hB x hx; omega)]; exact hf)
theorem says_b {b : En} {A bs : List En} {R : List Rc} (h : Says A bs R) (hl : ∀ r ∈ R, b.i < r.i) (hA : ∀ x ∈ A, b.i < x.i) : Says A (b :: bs) (putR b :: R) := by
  have e : findE b.i A = none := find_none (fun x hx => by have := hA x hx; omega)
  refine ⟨fun r hr => ?_, fun r hr => ?_, fun r hr x y hx hy => ?_, fun x hx => ?_⟩
  · rcases List.mem_cons.1 hr with rfl | hr
    · show isO (findE b.i A) = _
      rw [e]; simp [isO, putR]
    · exact h.a r hr
  · rcases List.mem_cons.1 hr with rfl | hr
    · rw [find_here (show b.i = (putR b).i from rfl)]; simp [isO, putR]
    · rw [find_skip (by have := hl r hr; omega)]; exact h.b r hr
  · rcases List.mem_cons.1 hr with rfl | hr
    · have : findE b.i A = some x := hx
      rw [e] at this; cases this
    · rw [find_skip (by have := hl r hr; omega)] at hy; exact h.ne r hr x y hx hy
  · rcases List.mem_cons.1 hx with rfl | hx
    · exact Or.inl ⟨putR x, by simp, rfl⟩
    · rcases h.un x hx with ⟨r, hr, hi⟩ | hf
      · exact Or.inl ⟨r, by simp [hr], hi⟩
      · exact Or.inr hf
theorem dif_k {a b : En} (h : entB a b = false) : (difR a b).k ≠ 0 ∧ (difR a b).k ≠ 2 := by
  unfold difR
  rw [h, if_neg (by simp)]
  split
  · exact ⟨by show (1 : Int) ≠ 0; decide, by show (1 : Int) ≠ 2; decide⟩
  · exact ⟨by show (3 : Int) ≠ 0; decide, by show (3 : Int) ≠ 2; decide⟩
theorem says_e {a b : En} {al bs : List En} {R : List Rc} (h : Says al bs R) (hi : a.i = b.i) (hl : ∀ r ∈ R, b.i < r.i) (hb : ∀ x ∈ bs, b.i < x.i) (he : entB a b = true) : Says (a :: al) (b :: bs) R := by
  have e := (entB_iff a b).1 he
  subst e
  refine ⟨fun r hr => ?_, fun r hr => ?_, fun r hr x y hx hy => ?_, fun x hx => ?_⟩
  · rw [find_skip (by have := hl r hr; omega)]; exact h.a r hr
  · rw [find_skip (by have := hl r hr; omega)]; exact h.b r hr
  · rw [find_skip (by have := hl r hr; omega)] at hx hy; exact h.ne r hr x y hx hy
  · rcases List.mem_cons.1 hx with rfl | hx
    · exact Or.inr (find_here rfl)
    · rcases h.un x hx with ⟨r, hr, hi⟩ | hf
      · exact Or.inl ⟨r, hr, hi⟩
      · exact Or.inr (by rw [find_skip (by have := hb x hx; omega)]; exact hf)
theorem says_d {a b : En} {al bs : List En} {R : List Rc} (h : Says al bs R) (hi : a.i = b.i) (hl : ∀ r ∈ R, b.i < r.i) (hb : ∀ x ∈ bs, b.i < x.i) (he : entB a b = false) : Says (a :: al) (b :: bs) (difR a b :: R) := by
  have e := dif_i he
  have hk := dif_k he
  refine ⟨fun r hr => ?_, fun r hr => ?_, fun r hr x y hx hy => ?_, fun x hx => ?_⟩
  · rcases List.mem_cons.1 hr with rfl | hr
    · rw [e, find_here hi]; simp [isO, hk.1]
    · rw [find_skip (by have := hl r hr; omega)]; exact h.a r hr
  · rcases List.mem_cons.1 hr with rfl | hr
    · rw [e, find_here rfl]; simp [isO, hk.2]
    · rw [find_skip (by have := hl r hr; omega)]; exact h.b r hr
  · rcases List.mem_cons.1 hr with rfl | hr
    · rw [e, find_here hi] at hx
      rw [e, find_here rfl] at hy
      cases hx; cases hy; exact he
    · rw [find_skip (by have := hl r hr; omega)] at hx hy; exact h.ne r hr x y hx hy
  · rcases List.mem_cons.1 hx with rfl | hx
    · exact Or.inl ⟨difR a x, by simp, e⟩
    · rcases h.un x hx with ⟨r, hr, hi⟩ | hf
      · exact Or.inl ⟨r, by simp [hr], hi⟩
      · exact Or.inr (by rw [find_skip (by have := hb x hx; omega)]; exact hf)
theorem mrg_saysN : ∀ (n : Nat) (A B : List En) (last : Int) (R : List Rc), A.length + B.length < n → rise last A → rise last B → mrg A B = some R → Says A B R
  | 0, _, _, _, _, h, _, _, _ => absurd h (Nat.not_lt_zero _)
  | n + 1, [], [], last, R, _, _, _, h => by
    rw [mrg_nn] at h
    cases h
    exact ⟨fun r hr => (by cases hr), fun r hr => (by cases hr), fun r hr => (by cases hr), fun x hx => (by cases hx)⟩
  | n + 1, a :: al, [], last, R, hn, ha, hb, h => by
    rw [mrg_cn] at h
    obtain ⟨S, hS, rfl⟩ := consO_some h
    have ih := mrg_saysN n al [] a.i S (by simp at hn ⊢; omega) ha.2.2 trivial hS
    exact says_a ih (ih.lt ha.2.2 trivial) (fun x hx => by cases hx)
  | n + 1, [], b :: bs, last, R, hn, ha, hb, h => by
    rw [mrg_nc] at h
    split at h
    · cases h
    · obtain ⟨S, hS, rfl⟩ := consO_some h
      have ih := mrg_saysN n [] bs b.i S (by simp at hn ⊢; omega) trivial hb.2.2 hS
      exact says_b ih (ih.lt trivial hb.2.2) (fun x hx => by cases hx)
  | n + 1, a :: al, b :: bs, last, R, hn, ha, hb, h => by
    simp only [List.length_cons] at hn
    rw [mrg_cc] at h
    split at h
    · rename_i h1
      obtain ⟨S, hS, rfl⟩ := consO_some h
      have hb' : rise a.i (b :: bs) := ⟨h1, hb.2⟩
      have ih := mrg_saysN n al (b :: bs) a.i S (by simp; omega) ha.2.2 hb' hS
      exact says_a ih (ih.lt ha.2.2 hb') (fun x hx => (rise_lt hb' x hx).1)
    · rename_i h1
      split at h
      · rename_i h2
        split at h
        · cases h
        · obtain ⟨S, hS, rfl⟩ := consO_some h
          have ha' : rise b.i (a :: al) := ⟨h2, ha.2⟩
          have ih := mrg_saysN n (a :: al) bs b.i S (by simp; omega) ha' hb.2.2 hS
          exact says_b ih (ih.lt ha' hb.2.2) (fun x hx => (rise_lt ha' x hx).1)
      · rename_i h2
        have hi : a.i = b.i := by omega
        have ha' : rise b.i al := by rw [← hi]; exact ha.2.2
        split at h
        · cases h
        · split at h
          · rename_i he
            have ih := mrg_saysN n al bs b.i R (by omega) ha' hb.2.2 h
            exact says_e ih hi (ih.lt ha' hb.2.2) (fun x hx => (rise_lt hb.2.2 x hx).1) he
          · rename_i he
            obtain ⟨S, hS, rfl⟩ := consO_some h
            have ih := mrg_saysN n al bs b.i S (by omega) ha' hb.2.2 hS
            exact says_d ih hi (ih.lt ha' hb.2.2) (fun x hx => (rise_lt hb.2.2 x hx).1) (by simpa using he)
theorem mrg_says {A B : List En} {last : Int} {R : List Rc} (ha : rise last A) (hb : rise last B) (h : mrg A B = some R) : Says A B R := mrg_saysN _ A B last R (Nat.lt_succ_self _) ha hb h

/-! a map of Ids -/
/-- Block b is a map that holds these Ids. -/
def MapB (w : World) (b : Nat) (S : List Int) : Prop := ∃ D n, w.ownsMap Tryz.prog 3 RV b n D ∧ n ≤ S.length ∧ Go.Maps.IsMap D ∧ ∀ x : Int, S64 x → D.atKey (.int .i64 x) (.held (.bool false)) = .held (.bool (decide (x ∈ S)))
theorem zeroBool (w : World) : (zeroValue 4).run Tryz.prog w = .ok (.bool false) w := by kernel_rfl
theorem MapB.lt {w : World} {b : Nat} {S : List Int} (h : MapB w b S) : b < w.heap.size := by obtain ⟨_, _, h, _⟩ := h; exact h.lt
theorem MapB.made (w : World) : MapB (w.alloc (.map #[] 0)) w.heap.size [] := ⟨_, _, World.ownsMap_made w _ _ _, Nat.le_refl _, ⟨_, rfl⟩, fun _ _ => rfl⟩
theorem MapB.kept {w w' : World} {row : Option Nat} {b : Nat} {S : List Int} (h : MapB w b S) (hg : w.grownBy w' row) (hne : some b ≠ row) : MapB w' b S := by
  obtain ⟨D, n, h1, h2⟩ := h
  exact ⟨D, n, h1.kept hg hne, h2⟩
theorem MapB.below {w w' : World} {b : Nat} {S : List Int} (h : MapB w b S) (hb : Below w.heap.size w w') : MapB w' b S := h.kept (below_by hb) (by simp)
section
variable {w : World} {ops : Array Oper} {rest : List Oper} {o : Oper} {a : Act} {Q : Exit → Act → World → Prop}
end
end Go.Proofs.YtpamjalgcloehaaGreat

namespace Go.Proofs.YtpamjalgcloehaaGreat
open Go.RowKit
set_option linter.unusedVariables false

def idsTo (L : List Rc) (k : Nat) : List Int := (pre (atR L) k).map (·.i)
theorem idsTo_zero (L : List Rc) : idsTo L 0 = [] := rfl
theorem idsTo_succ (L : List Rc) (k : Nat) : idsTo L (k + 1) = idsTo L k ++ [(atR L k).i] := by unfold idsTo; rw [pre_succ, List.map_append]; rfl
theorem idsTo_len (L : List Rc) (k : Nat) : (idsTo L k).length = k := by unfold idsTo; rw [List.length_map, pre_len]
theorem idsTo_all (L : List Rc) : idsTo L L.length = L.map (·.i) := by unfold idsTo; rw [pre_atR]
theorem atR_mem {L : List Rc} {k : Nat} (h : k < L.length) : atR L k ∈ L := by
  have e : atR L k = L[k] := by unfold atR; simp [List.getD, h]
  rw [e]; exact List.getElem_mem h
theorem asc_next : ∀ {L : List Rc} {a : Int}, asc a L → ∀ j, j + 1 < L.length → (atR L j).i < (atR L (j + 1)).i
  | [], _, _, j, h => by simp at h
  | [r], _, _, j, h => by simp at h
  | r :: s :: L, a, h, 0, _ => h.2.2.2.1
  | r :: s :: L, a, h, j + 1, hj => asc_next (L := s :: L) h.2.2.2 j (by simp at hj ⊢; omega)
theorem get_ne {o p : Option En} (h : ∀ x y, o = some x → p = some y → entB x y = false) : isO o = true → isO p = true → entB (getE o) (getE p) = false := by
  cases o <;> cases p <;> simp [isO, getE] at *
  exact h
/-- What each record of a datagram that tells one by another one says. -/
theorem rec_says {t m : Int} {L : List En} {t' m' : Int} {L' : List En} (h : dlE t m L t' m' L' = 0) (oa : ∀ x ∈ L, x.ok) (ob : ∀ x ∈ L', x.ok) :
    (∀ k, k < (dlL t m L t' m' L').length → 0 ≤ (atR (dlL t m L t' m' L') k).i ∧ (atR (dlL t m L t' m' L') k).i ≤ 65535 ∧
      isO (findE (atR (dlL t m L t' m' L') k).i L) = decide ((atR (dlL t m L t' m' L') k).k ≠ 0) ∧ isO (findE (atR (dlL t m L t' m' L') k).i L') = decide ((atR (dlL t m L t' m' L') k).k ≠ 2) ∧
      (isO (findE (atR (dlL t m L t' m' L') k).i L) = true → isO (findE (atR (dlL t m L t' m' L') k).i L') = true → entB (getE (findE (atR (dlL t m L t' m' L') k).i L)) (getE (findE (atR (dlL t m L t' m' L') k).i L')) = false)) ∧
    (∀ j, j + 1 < (dlL t m L t' m' L').length → (atR (dlL t m L t' m' L') j).i < (atR (dlL t m L t' m' L') (j + 1)).i) ∧
    (∀ x ∈ L', x.i ∈ idsTo (dlL t m L t' m' L') (dlL t m L t' m' L').length ∨ findE x.i L = some x) ∧ (dlL t m L t' m' L').length ≤ 128 := by
  obtain ⟨h1, h2, h3, h4, h5, h6⟩ := dl_told h oa ob
  obtain ⟨a0, a1, a2, a3, a4⟩ := sn_ok h1
  obtain ⟨b0, b1, b2, b3, b4⟩ := sn_ok h2
  have hs := mrg_says a4 b4 h5
  refine ⟨fun k hk => ?_, asc_next h6.asc_, fun x hx => ?_, by have := h6.len; omega⟩
  · have hm := atR_mem hk
    have ha := asc_lt h6.asc_ _ hm
    exact ⟨by omega, ha.2.1, hs.a _ hm, hs.b _ hm, get_ne (hs.ne _ hm)⟩
  · rcases hs.un x hx with ⟨r, hr, hi⟩ | hf
    · exact Or.inl (by rw [idsTo_all]; exact List.mem_map.2 ⟨r, hr, hi⟩)
    · exact Or.inr hf
end Go.Proofs.YtpamjalgcloehaaGreat

namespace Go.Proofs.YtpamjalgcloehaaGreat
open Go.RowKit
set_option linter.unusedVariables false
set_option maxRecDepth 20000
theorem mrg_self : ∀ (A : List En), mrg A A = some []
  | [] => rfl
  | a :: A => by
    rw [mrg_cc, if_neg (by omega), if_neg (by omega), if_neg (by rintro ⟨h, _⟩; exact h rfl), if_pos (entB_same a)]
    exact mrg_self A
/-- A row without its entity number i. -/
def cutL (L : List En) (i : Nat) : List En := L.take i ++ L.drop (i + 1)
theorem cutL_zero (a : En) (L : List En) : cutL (a :: L) 0 = L := by simp [cutL]
theorem cutL_succ (a : En) (L : List En) (i : Nat) : cutL (a :: L) (i + 1) = a :: cutL L i := by simp [cutL]
theorem mrg_low {a : En} {A : List En} (h : ∀ x ∈ A, a.i < x.i) : mrg (a :: A) A = some [remR a] := by
  have hs := mrg_self A
  cases A with
  | nil => rw [mrg_cn, mrg_nn]; rfl
  | cons b B =>
    rw [mrg_cc, if_pos (h b (by simp)), hs]; rfl
theorem mrg_high {a : En} {A : List En} (h : ∀ x ∈ A, a.i < x.i) : mrg A (a :: A) = if a.g ≠ 0 then none else some [putR a] := by
  have hs := mrg_self A
  cases A with
  | nil =>
    rw [mrg_nc, mrg_nn]
    split <;> rfl
  | cons b B =>
    have hb := h b (by simp)
    rw [mrg_cc, if_neg (by omega), if_pos hb]
    split
    · rfl
    · rw [hs]; rfl
theorem mrg_cut : ∀ (L : List En) (l : Int) (i : Nat), rise l L → i < L.length → mrg L (cutL L i) = some [remR (atE L i)]
  | [], _, _, _, h => by simp at h
  | a :: L, l, 0, hr, _ => by
    rw [cutL_zero]
    exact mrg_low fun x hx => (rise_lt hr.2.2 x hx).1
  | a :: L, l, i + 1, hr, h => by
    rw [cutL_succ, mrg_cc, if_neg (by omega), if_neg (by omega), if_neg (by rintro ⟨h, _⟩; exact h rfl), if_pos (entB_same a)]
    exact mrg_cut L a.i i hr.2.2 (by simpa using h)
theorem mrg_uncut : ∀ (L : List En) (l : Int) (i : Nat), rise l L → i < L.length → mrg (cutL L i) L = if (atE L i).g ≠ 0 then none else some [putR (atE L i)]
  | [], _, _, _, h => by simp at h
  | a :: L, l, 0, hr, _ => by
    rw [cutL_zero]
    exact mrg_high fun x hx => (rise_lt hr.2.2 x hx).1
  | a :: L, l, i + 1, hr, h => by
    rw [cutL_succ, mrg_cc, if_neg (by omega), if_neg (by omega), if_neg (by rintro ⟨h, _⟩; exact h rfl), if_pos (entB_same a)]
    exact mrg_uncut L a.i i hr.2.2 (by simpa using h)
theorem rise_cut : ∀ {L : List En} {l : Int} (i : Nat), rise l L → rise l (cutL L i)
  | [], _, _, _ => by simp [cutL, rise]
  | a :: L, l, 0, hr => by rw [cutL_zero]; exact rise_mono (by have := hr.1; omega) hr.2.2
  | a :: L, l, i + 1, hr => by rw [cutL_succ]; exact ⟨hr.1, hr.2.1, rise_cut i hr.2.2⟩
theorem cutL_len {L : List En} {i : Nat} (h : i < L.length) : (cutL L i).length + 1 = L.length := by simp [cutL]; omega
theorem cutL_mem {L : List En} {i : Nat} {x : En} (h : x ∈ cutL L i) : x ∈ L := by
  rcases List.mem_append.1 h with h | h
  · exact List.mem_of_mem_take h
  · exact List.mem_of_mem_drop h
theorem sn_is {t m : Int} {L : List En} (h0 : 0 ≤ t) (h1 : t ≤ 4294967295) (hm : timB m = true) (hl : L.length ≤ 64) (hr : rise (-1) L) : snE t m L = 0 := by
  unfold snE
  rw [if_neg (fun h => by rcases h with h | h | h <;> first | omega | (rw [hm] at h; cases h)), if_neg (by omega)]
  exact (ids_rise L (-1) (by omega)).2 hr
/-- Told without one, and back. -/
theorem cut_told {t m : Int} {L : List En} {i : Nat} (h : snE t m L = 0) (ht : t ≤ 4294967293) (hi : i < L.length) :
    dlE t m L (t + 1) m (cutL L i) = 0 ∧ dlG t m L (t + 1) m (cutL L i) = ⟨t + 1, m, t⟩ ∧ dlL t m L (t + 1) m (cutL L i) = [remR (atE L i)] := by
  obtain ⟨h1, h2, h3, h4, h5⟩ := sn_ok h
  have hl := cutL_len hi
  have hc : snE (t + 1) m (cutL L i) = 0 := sn_is (by omega) (by omega) h3 (by omega) (rise_cut i h5)
  have hm := mrg_cut L (-1) i h5 hi
  have hE : dlE t m L (t + 1) m (cutL L i) = 0 := by
    unfold dlE; rw [if_pos h, if_pos hc, if_neg (by omega), hm]; rfl
  refine ⟨hE, by unfold dlG; rw [if_pos hE], by unfold dlL; rw [if_pos hE, hm]; rfl⟩
theorem cut_back {t m : Int} {L : List En} {i : Nat} (h : snE t m L = 0) (ht : t ≤ 4294967293) (hi : i < L.length) :
    ((atE L i).g ≠ 0 → dlE (t + 1) m (cutL L i) (t + 2) m L = 15) ∧ ((atE L i).g = 0 → dlE (t + 1) m (cutL L i) (t + 2) m L = 0 ∧ dlG (t + 1) m (cutL L i) (t + 2) m L = ⟨t + 2, m, t + 1⟩ ∧ dlL (t + 1) m (cutL L i) (t + 2) m L = [putR (atE L i)]) := by
  obtain ⟨h1, h2, h3, h4, h5⟩ := sn_ok h
  have hl := cutL_len hi
  have hc : snE (t + 1) m (cutL L i) = 0 := sn_is (by omega) (by omega) h3 (by omega) (rise_cut i h5)
  have hc2 : snE (t + 2) m L = 0 := sn_is (by omega) (by omega) h3 h4 h5
  have hm := mrg_uncut L (-1) i h5 hi
  constructor
  · intro hg
    rw [if_pos hg] at hm
    unfold dlE; rw [if_pos hc, if_pos hc2, if_neg (by omega), hm]; rfl
  · intro hg
    rw [if_neg (by omega)] at hm
    have hE : dlE (t + 1) m (cutL L i) (t + 2) m L = 0 := by
      unfold dlE; rw [if_pos hc, if_pos hc2, if_neg (by omega), hm]; rfl
    exact ⟨hE, by unfold dlG; rw [if_pos hE], by unfold dlL; rw [if_pos hE, hm]; rfl⟩
/-! append of a slice of entities -/
theorem ents_app (L M : List En) : ents (L ++ M) = ents L ++ ents M := by unfold ents; simp
theorem ents_one (L : List En) : ∀ u ∈ ents L, u.oneCell' = true := by
  intro u hu
  unfold ents at hu
  rw [List.mem_flatMap] at hu
  obtain ⟨r, _, hu⟩ := hu
  exact entC_one r u hu
theorem appE_op {w : World} {o : Oper} {a : Act} {K : Act → World → Prop} {Q : Exit → Act → World → Prop} (s x : Operand)
    (ho : o.op = .call { callee := .builtin .append, args := #[s, x], argTypes := #[22, 22] })
    (B : Nat) (v : Value) (L : List En) (hs : a.eval s = v) (hown : OwnE w B v L) (ad : Addr) (m c : Nat) (N : List En) (hx : a.eval x = .slice (some ad) m c) (hm : N.length = m)
    (hr : ∀ j u, (ents N)[j]? = some u → w.cell? (ad.add j) = some u) (hlen : L.length + N.length ≤ 1000000) (hB : B ≤ w.heap.size)
    (h : ∀ v' w', OwnE w' B v' (L ++ N) → Grow B v w v' w' → K (a.put o.dst v') w') : o.wp Tryz.prog a w K Q := by
  obtain ⟨i0, hi, hz0, hz1, hz2⟩ := info_parts infoE
  obtain ⟨v', w', hrun, h2, h3, _, h5⟩ := run_append_own_at (P := Tryz.prog) w B 22 o.type 40 i0 (entV noEnt) 9 64 Tryz.underlying22 hi hz0 hz1 hz2 rfl (by decide) v L.length (ents L) hown ad m c (ents N) (by rw [ents_len, hm]) hr (ents_one N) (by unfold maxLen; omega) (by omega) hB
  unfold Oper.wp
  simp [execOp, ho, resolve, invoke, builtin, hs, hx, hrun, Result.andThen]
  refine h v' w' ?_ ⟨(Below.refl B w).grown h3 hB (fun k hk => (hown.lt k hk).1), h3, h5⟩
  unfold OwnE
  rw [List.length_append, hm, ents_app]
  exact h2
theorem appE_step {w : World} {ops : Array Oper} {o : Oper} {a : Act} {K : Act → World → Prop} {Q : Exit → Act → World → Prop} {E : Prop} (hgd : o.guard = none) (d : Option Nat) (hd : o.dst = d) (s x : Operand)
    (ho : o.op = .call { callee := .builtin .append, args := #[s, x], argTypes := #[22, 22] })
    (B : Nat) (v : Value) (L : List En) (hs : a.eval s = v) (hown : OwnE w B v L) (ad : Addr) (m c : Nat) (N : List En) (hx : a.eval x = .slice (some ad) m c) (hm : N.length = m)
    (hr : ∀ j u, (ents N)[j]? = some u → w.cell? (ad.add j) = some u) (hlen : L.length + N.length ≤ 1000000) (hB : B ≤ w.heap.size)
    (h : ∀ v' w', OwnE w' B v' (L ++ N) → Grow B v w v' w' → K (a.put d v') w') :
    if Region.wanted o (yielded ops a.tmps) = true then Oper.wp Tryz.prog o a w K Q else E := by
  subst hd
  have hw : Region.wanted o (yielded ops a.tmps) = true := by simp [Region.wanted, hgd]
  rw [if_pos hw]
  exact appE_op s x ho B v L hs hown ad m c N hx hm hr hlen hB h
theorem ents_rd {w : World} {b o n : Nat} {A : Nat → En} (h : ∀ i, i < n → ∀ j x, (entC (A i))[j]? = some x → w.cell? ⟨b, o + i * 9 + j, none⟩ = some x) (j : Nat) (u : Value) (hu : (ents (preE A n))[j]? = some u) : w.cell? ⟨b, o + j, none⟩ = some u := by
  have hj : j < n * 9 := by have := (List.getElem?_eq_some_iff.1 hu).1; rwa [ents_len, preE_len] at this
  have hq : j / 9 < n := by omega
  have hl : (entC (A (j / 9))).length = 9 := rfl
  obtain ⟨x, hx⟩ : ∃ x, (entC (A (j / 9)))[j % 9]? = some x := ⟨_, List.getElem?_eq_getElem (by rw [hl]; omega)⟩
  have e := preE_at A n (j / 9) hq
  have e2 := ents_at (preE A n) (j / 9) (j % 9) x (by rw [preE_len]; exact hq) (by
    have e' : (preE A n).getD (j / 9) noEnt = A (j / 9) := e
    rw [e']; exact hx)
  rw [show j / 9 * 9 + j % 9 = j by omega, hu] at e2
  injection e2 with e2
  subst e2
  have := h (j / 9) hq (j % 9) u hx
  rw [show o + j / 9 * 9 + j % 9 = o + j by omega] at this
  exact this
theorem ents_take (L : List En) (i j : Nat) (u : Value) (h : (ents (L.take i))[j]? = some u) : (ents L)[j]? = some u := by
  have e : ents L = ents (L.take i) ++ ents (L.drop i) := by rw [← ents_app, List.take_append_drop]
  rw [e, List.getElem?_append_left (List.getElem?_eq_some_iff.1 h).1]; exact h
theorem ents_drop (L : List En) (i j : Nat) (hi : i ≤ L.length) (u : Value) (h : (ents (L.drop i))[j]? = some u) : (ents L)[i * 9 + j]? = some u := by
  have e : ents L = ents (L.take i) ++ ents (L.drop i) := by rw [← ents_app, List.take_append_drop]
  have hl : (ents (L.take i)).length = i * 9 := by rw [ents_len, List.length_take]; congr 1; omega
  rw [e, List.getElem?_append_right (by omega), hl, Nat.add_sub_cancel_left]; exact h
/-- A new row without entities. -/
theorem ownE_new (w : World) (B : Nat) (hB : B ≤ w.heap.size) : OwnE (w.alloc (.cells #[] 40)) B (.slice (some ⟨w.heap.size, 0, none⟩) 0 0) [] :=
  ⟨rfl, Or.inr ⟨w.heap.size, 0, #[], rfl, hB, heap_alloc_new w _, Nat.le_refl _, by unfold maxLen; omega, rfl, rfl⟩⟩
theorem ownE_three {w : World} {B b : Nat} {v x0 x1 x2 : Value} {L : List En} (h : OwnE w B v L) (hne : some b ≠ v.ownBlock) : OwnE (((w.setCell ⟨b, 0, none⟩ x0).setCell ⟨b, 1, none⟩ x1).setCell ⟨b, 2, none⟩ x2) B v L := by
  have g : w.grownBy (((w.setCell ⟨b, 0, none⟩ x0).setCell ⟨b, 1, none⟩ x1).setCell ⟨b, 2, none⟩ x2) (some b) :=
    ⟨rfl, rfl, rfl, by simp, fun k _ hk => by
      have hb : k ≠ b := fun e => hk (by rw [e])
      rw [heap_setCell_other _ ⟨b, 2, none⟩ k _ hb, heap_setCell_other _ ⟨b, 1, none⟩ k _ hb, heap_setCell_other _ ⟨b, 0, none⟩ k _ hb]⟩
  refine World.ownsRow.kept h g ?_
  cases hq : v.ownBlock with
  | none => exact Or.inl rfl
  | some q => exact Or.inr (fun e => hne (by rw [hq]; exact e.symm))
end Go.Proofs.YtpamjalgcloehaaGreat

namespace Go.Proofs.YtpamjalgcloehaaGreat
open Go.RowKit
set_option linter.unusedVariables false

/-- A row ahead of what is made. -/
def appO {α : Type} (S : List α) (o : Option (List α)) : Option (List α) := o.map (S ++ ·)
theorem appO_nil {α : Type} (o : Option (List α)) : appO [] o = o := by cases o <;> rfl
theorem appO_cons {α : Type} (S : List α) (x : α) (o : Option (List α)) : appO S (consO x o) = appO (S ++ [x]) o := by
  cases o <;> simp [appO, consO]
theorem appO_none {α : Type} (S : List α) : appO S none = none := rfl
theorem appO_some {α : Type} (S T : List α) : appO S (some T) = some (S ++ T) := rfl
theorem dropE_cons (A : Nat → En) {n i : Nat} (h : i < n) : (preE A n).drop i = A i :: (preE A n).drop (i + 1) := by
  have hl : i < (preE A n).length := by rw [preE_len]; exact h
  rw [List.drop_eq_getElem_cons hl]
  congr 1
  simp [preE]
theorem dropE_end (A : Nat → En) {n i : Nat} (h : n ≤ i) : (preE A n).drop i = [] := List.drop_of_length_le (by rw [preE_len]; exact h)
theorem dropR_cons (A : Nat → Rc) {n i : Nat} (h : i < n) : (pre A n).drop i = A i :: (pre A n).drop (i + 1) := by
  have hl : i < (pre A n).length := by rw [pre_len]; exact h
  rw [List.drop_eq_getElem_cons hl]
  congr 1
  simp [pre]
theorem dropR_end (A : Nat → Rc) {n i : Nat} (h : n ≤ i) : (pre A n).drop i = [] := List.drop_of_length_le (by rw [pre_len]; exact h)

section
variable (Aa : Nat → En) (nw : Nat) (A : Nat → Rc) (n : Nat)
/-- What Apply makes: entities that stand, and what is behind both places. -/
def apS (S : List En) (i k : Nat) : Option (List En) := appO S (apl ((preE Aa nw).drop i) ((pre A n).drop k))
variable {Aa nw A n}
theorem apS_start : apS Aa nw A n [] 0 0 = apl (preE Aa nw) (pre A n) := appO_nil _
theorem apS_skip {S : List En} {i k : Nat} (hi : i < nw) (hk : k < n) (h : (Aa i).i < (A k).i) : apS Aa nw A n S i k = apS Aa nw A n (S ++ [Aa i]) (i + 1) k := by
  unfold apS
  rw [dropE_cons Aa hi, dropR_cons A hk, apl_cc, if_pos h, appO_cons]
theorem apS_put {S : List En} {i k : Nat} (hk : k < n) (h : i < nw → (A k).i < (Aa i).i) (hz : (A k).k = 0) : apS Aa nw A n S i k = apS Aa nw A n (S ++ [newE (A k)]) i (k + 1) := by
  unfold apS
  rcases Nat.lt_or_ge i nw with hi | hi
  · have := h hi
    rw [dropE_cons Aa hi, dropR_cons A hk, apl_cc, if_neg (by omega), if_neg (by omega), if_pos hz, appO_cons]
  · rw [dropE_end Aa hi, dropR_cons A hk, apl_nc, if_pos hz, appO_cons]
theorem apS_none {S : List En} {i k : Nat} (hk : k < n) (h : i < nw → (A k).i < (Aa i).i) (hz : (A k).k ≠ 0) : apS Aa nw A n S i k = none := by
  unfold apS
  rcases Nat.lt_or_ge i nw with hi | hi
  · have := h hi
    rw [dropE_cons Aa hi, dropR_cons A hk, apl_cc, if_neg (by omega), if_neg (by omega), if_neg hz]; rfl
  · rw [dropE_end Aa hi, dropR_cons A hk, apl_nc, if_neg hz]; rfl
theorem apS_there {S : List En} {i k : Nat} (hi : i < nw) (hk : k < n) (h : (Aa i).i = (A k).i) (hz : (A k).k = 0) : apS Aa nw A n S i k = none := by
  unfold apS
  rw [dropE_cons Aa hi, dropR_cons A hk, apl_cc, if_neg (by omega), if_pos h, if_pos hz]; rfl
theorem apS_rem {S : List En} {i k : Nat} (hi : i < nw) (hk : k < n) (h : (Aa i).i = (A k).i) (hz : (A k).k = 2) : apS Aa nw A n S i k = apS Aa nw A n S (i + 1) (k + 1) := by
  unfold apS
  rw [dropE_cons Aa hi, dropR_cons A hk, apl_cc, if_neg (by omega), if_pos h, if_neg (by omega), if_pos hz]
theorem apS_new {S : List En} {i k : Nat} (hi : i < nw) (hk : k < n) (h : (Aa i).i = (A k).i) (h0 : (A k).k ≠ 0) (hz : (A k).k ≠ 2) : apS Aa nw A n S i k = apS Aa nw A n (S ++ [appN (Aa i) (A k)]) (i + 1) (k + 1) := by
  unfold apS
  rw [dropE_cons Aa hi, dropR_cons A hk, apl_cc, if_neg (by omega), if_pos h, if_neg h0, if_neg hz, appO_cons]
theorem apS_end {S : List En} {i : Nat} : apS Aa nw A n S i n = some (S ++ (preE Aa nw).drop i) := by
  unfold apS
  rw [dropR_end A (Nat.le_refl _), apl_nil, appO_some]
end

section
variable (A : Nat → En) (na : Nat) (B : Nat → En) (nb : Nat)
/-- What Diff makes: records that stand, and what is behind both places. -/
def mgS (S : List Rc) (i k : Nat) : Option (List Rc) := appO S (mrg ((preE A na).drop i) ((preE B nb).drop k))
variable {A na B nb}
theorem mgS_start : mgS A na B nb [] 0 0 = mrg (preE A na) (preE B nb) := appO_nil _
theorem mgS_rem {S : List Rc} {i k : Nat} (hi : i < na) (h : k < nb → (A i).i < (B k).i) : mgS A na B nb S i k = mgS A na B nb (S ++ [remR (A i)]) (i + 1) k := by
  unfold mgS
  rcases Nat.lt_or_ge k nb with hk | hk
  · rw [dropE_cons A hi, dropE_cons B hk, mrg_cc, if_pos (h hk), appO_cons]
  · rw [dropE_cons A hi, dropE_end B hk, mrg_cn, appO_cons]
theorem mgS_none {S : List Rc} {i k : Nat} (hk : k < nb) (h : i < na → (B k).i < (A i).i) (hg : (B k).g ≠ 0) : mgS A na B nb S i k = none := by
  unfold mgS
  rcases Nat.lt_or_ge i na with hi | hi
  · have := h hi
    rw [dropE_cons A hi, dropE_cons B hk, mrg_cc, if_neg (by omega), if_pos this, if_pos hg]; rfl
  · rw [dropE_end A hi, dropE_cons B hk, mrg_nc, if_pos hg]; rfl
theorem mgS_put {S : List Rc} {i k : Nat} (hk : k < nb) (h : i < na → (B k).i < (A i).i) (hg : (B k).g = 0) : mgS A na B nb S i k = mgS A na B nb (S ++ [putR (B k)]) i (k + 1) := by
  unfold mgS
  rcases Nat.lt_or_ge i na with hi | hi
  · have := h hi
    rw [dropE_cons A hi, dropE_cons B hk, mrg_cc, if_neg (by omega), if_pos this, if_neg (by simpa using hg), appO_cons]
  · rw [dropE_end A hi, dropE_cons B hk, mrg_nc, if_neg (by simpa using hg), appO_cons]
theorem mgS_far {S : List Rc} {i k : Nat} (hi : i < na) (hk : k < nb) (h : (A i).i = (B k).i) (hg : (B k).g ≠ (A i).g ∧ (B k).g ≠ ((A i).g + 1) % 256) : mgS A na B nb S i k = none := by
  unfold mgS
  rw [dropE_cons A hi, dropE_cons B hk, mrg_cc, if_neg (by omega), if_neg (by omega), if_pos hg]; rfl
theorem mgS_same {S : List Rc} {i k : Nat} (hi : i < na) (hk : k < nb) (h : (A i).i = (B k).i) (hg : ¬ ((B k).g ≠ (A i).g ∧ (B k).g ≠ ((A i).g + 1) % 256)) (he : entB (A i) (B k) = true) : mgS A na B nb S i k = mgS A na B nb S (i + 1) (k + 1) := by
  unfold mgS
  rw [dropE_cons A hi, dropE_cons B hk, mrg_cc, if_neg (by omega), if_neg (by omega), if_neg hg, if_pos he]
theorem mgS_dif {S : List Rc} {i k : Nat} (hi : i < na) (hk : k < nb) (h : (A i).i = (B k).i) (hg : ¬ ((B k).g ≠ (A i).g ∧ (B k).g ≠ ((A i).g + 1) % 256)) (he : entB (A i) (B k) = false) : mgS A na B nb S i k = mgS A na B nb (S ++ [difR (A i) (B k)]) (i + 1) (k + 1) := by
  unfold mgS
  rw [dropE_cons A hi, dropE_cons B hk, mrg_cc, if_neg (by omega), if_neg (by omega), if_neg hg, if_neg (by rw [he]; simp), appO_cons]
theorem mgS_end {S : List Rc} : mgS A na B nb S na nb = some S := by
  unfold mgS
  rw [dropE_end A (Nat.le_refl _), dropE_end B (Nat.le_refl _), mrg_nn, appO_some, List.append_nil]
end
end Go.Proofs.YtpamjalgcloehaaGreat

namespace Go.Proofs.YtpamjalgcloehaaGreat
open Go.RowKit
set_option linter.unusedVariables false
set_option maxRecDepth 20000

theorem lastE_pre (A : Nat → En) (j : Nat) : lastE (-1) (preE A (j + 1)) = (A j).i := by rw [preE_succ, lastE_snoc]
set_option maxHeartbeats 2000000 in
theorem dsn_check (w : World) (t m : Int) (v : Value) (n : Nat) (A : Nat → En) (hv : RdE w v n A) :
    Calls Tryz.prog 15 #[snV t m v] w fun e w' => e = .returned (.int .i64 (snE t m (preE A n))) ∧ Below w.heap.size w w' := by
  have HR : Hid (RdE w v n A) := hv
  obtain ⟨E, hE⟩ : ∃ E, snE t m (preE A n) = E := ⟨_, rfl⟩
  have HT : Hid (t < 0 ∨ 4294967295 < t ∨ m < -2305843009213693952 ∨ 2305843009213693952 < m → E = 3) := fun h => by
    rw [← hE]; unfold snE; rw [if_pos]
    rcases h with h | h | h | h
    · exact Or.inl h
    · exact Or.inr (Or.inl h)
    · refine Or.inr (Or.inr ?_); unfold timB; simp; omega
    · refine Or.inr (Or.inr ?_); unfold timB; simp; omega
  have HN : ¬ (t < 0 ∨ 4294967295 < t ∨ m < -2305843009213693952 ∨ 2305843009213693952 < m) → E = if 64 < n then 4 else idsE (-1) (preE A n) := fun h => by
    rw [← hE]; unfold snE; rw [if_neg, preE_len]
    intro h'
    rcases h' with h' | h' | h'
    · omega
    · omega
    · unfold timB at h'; simp at h'; omega
  rw [hE]
  clear hE
  obtain ⟨ao, cap, rfl, hc, hm, _⟩ := hv
  have B0 : ∀ c T, Below w.heap.size w (w.alloc (.cells c T)) := fun c T => (Below.refl _ _).alloc (Nat.le_refl _) _
  by_cases h1 : t < 0
  · have e := HT.out (Or.inl h1)
    subst e
    clear HT HN HR
    go_enter Tryz.func15, Tryz.ntmps15
    go_wp2_with fail
    go_ret
    exact ⟨rfl, B0 _ _⟩
  by_cases h2 : 4294967295 < t
  · have e := HT.out (Or.inr (Or.inl h2))
    subst e
    clear HT HN HR
    go_enter Tryz.func15, Tryz.ntmps15
    go_wp2_with fail
    go_ret
    exact ⟨rfl, B0 _ _⟩
  by_cases h3 : m < -2305843009213693952
  · have e := HT.out (Or.inr (Or.inr (Or.inl h3)))
    subst e
    clear HT HN HR
    go_enter Tryz.func15, Tryz.ntmps15
    go_wp2_with fail
    go_ret
    exact ⟨rfl, B0 _ _⟩
  by_cases h4 : 2305843009213693952 < m
  · have e := HT.out (Or.inr (Or.inr (Or.inr h4)))
    subst e
    clear HT HN HR
    go_enter Tryz.func15, Tryz.ntmps15
    go_wp2_with fail
    go_ret
    exact ⟨rfl, B0 _ _⟩
  have e := HN (by omega)
  clear HT HN
  by_cases h5 : 64 < n
  · rw [if_pos h5] at e
    subst e
    clear HR
    go_enter Tryz.func15, Tryz.ntmps15
    go_wp2_with fail
    go_ret
    exact ⟨rfl, B0 _ _⟩
  rw [if_neg h5] at e
  obtain ⟨s1, s2, s3, s4⟩ := ids_steps A n E e.symm
  have S1 : Hid (∀ k, k < n → rise (-1) (preE A k) → ((A k).i < 0 ∨ 65535 < (A k).i) → E = 3) := s1
  have S2 : Hid (∀ k, k < n → rise (-1) (preE A k) → ¬ ((A k).i < 0 ∨ 65535 < (A k).i) → (A k).i ≤ lastE (-1) (preE A k) → E = 10) := s2
  have S3 : Hid (∀ k, k < n → rise (-1) (preE A k) → ¬ ((A k).i < 0 ∨ 65535 < (A k).i) → ¬ (A k).i ≤ lastE (-1) (preE A k) → rise (-1) (preE A (k + 1))) := fun k a b c d => (s3 k a b c d).1
  have S4 : Hid (rise (-1) (preE A n) → E = 0) := s4
  clear e s1 s2 s3 s4
  go_enter Tryz.func15, Tryz.ntmps15
  go_wp2_with fail
  generalize hW : w.alloc (.cells #[.int .i64 t, .int .i64 m, .slice ao n cap] 24) = W
  obtain ⟨A0, b0, _⟩ := boxed hW
  obtain ⟨H, hH⟩ : ∃ x, w.heap.size = x := ⟨_, rfl⟩
  have HH : Hid (w.heap.size = H) := hH
  have R0 : Hid (RdE W (.slice ao n cap) n A) := HR.out.below b0
  rw [hH] at A0 b0 ⊢
  clear hW HR B0 hH
  go_loopw [3] (fun i wr => ∃ k : Nat, k ≤ n ∧ i = .int .i64 k ∧ rise (-1) (preE A k) ∧ RdE wr (.slice ao n cap) n A ∧ Blk wr H [.int .i64 t, .int .i64 m, .slice ao n cap] ∧ Below H w wr) (fun i _ => n - (intOf i).toNat)
  case atStart => exact ⟨0, by omega, rfl, trivial, R0.out, A0, b0⟩
  case round =>
    clear A0 b0 R0
    obtain ⟨k, hk, rfl, q1, q3, q5, q4⟩ := hrel
    have Q3 : Hid (RdE wr (.slice ao n cap) n A) := q3
    have Q1 : Hid (rise (-1) (preE A k)) := q1
    have c0 := q5.cell 2 _ rfl
    have lH := q5.lt
    by_cases hlt : k < n
    · obtain ⟨g1, o1, e1, l1, c1⟩ := rdE_at q3 hlt
      have T1 := S1.out k hlt q1
      have T2 := S2.out k hlt q1
      have T3 := S3.out k hlt q1
      have LP : ∀ j, k = j + 1 → lastE (-1) (preE A k) = (A j).i := fun j h => by rw [h, lastE_pre]
      have L0 : k = 0 → lastE (-1) (preE A k) = -1 := fun h => by rw [h]; rfl
      have CP : ∀ j, k = j + 1 → wr.cell? ⟨g1, o1 + j * 9, none⟩ = some (.int .i64 (A j).i) := fun j h => by
        obtain ⟨g2, o2, e2, _, c2⟩ := rdE_at q3 (show j < n by omega)
        rw [e1] at e2; injection e2 with e2; injection e2 with e2 e3 _; subst e2 e3
        exact c2 0 _ rfl
      subst e1
      have x0 := c1 0 _ rfl
      simp only [Nat.add_zero] at x0
      obtain ⟨ls, hls⟩ : ∃ x, lastE (-1) (preE A k) = x := ⟨_, rfl⟩
      obtain ⟨r0, hr0⟩ : ∃ x, (A k).i = x := ⟨_, rfl⟩
      rw [hr0] at T1 T2 T3 x0
      rw [hls] at T2 T3 LP L0
      have U1 : Hid (r0 < 0 ∨ 65535 < r0 → E = 3) := T1
      have U2 : Hid (¬ (r0 < 0 ∨ 65535 < r0) → r0 ≤ ls → E = 10) := T2
      have U3 : Hid (¬ (r0 < 0 ∨ 65535 < r0) → ¬ r0 ≤ ls → rise (-1) (preE A (k + 1))) := fun a b => T3 a (by omega)
      have HLP : Hid (∀ j, k = j + 1 → ls = (A j).i) := LP
      have HL0 : Hid (k = 0 → ls = -1) := L0
      have HCP : Hid (∀ j, k = j + 1 → wr.cell? ⟨g1, o1 + j * 9, none⟩ = some (.int .i64 (A j).i)) := CP
      clear c1 q1 q3 hls hr0 T1 T2 T3 S1 S2 S3 S4 LP L0 CP
      by_cases g1' : r0 < 0
      · have e := U1.out (Or.inl g1')
        subst e
        clear U1 U2 U3 HLP HL0 HCP
        go_wp2_with fail
        go_ret
        exact ⟨rfl, by rw [HH.out]; exact q4⟩
      by_cases g2 : 65535 < r0
      · have e := U1.out (Or.inr g2)
        subst e
        clear U1 U2 U3 HLP HL0 HCP
        go_wp2_with fail
        go_ret
        exact ⟨rfl, by rw [HH.out]; exact q4⟩
      by_cases hk0 : k = 0
      · have E3 : Hid (rise (-1) (preE A (k + 1))) := U3.out (by omega) (by have := HL0.out hk0; omega)
        subst hk0
        simp only [Nat.zero_mul, Nat.add_zero] at x0
        clear U1 U2 U3 HLP HL0 HCP
        go_wp2_with fail
        go_quiet (fail)
        go_wp2_with fail
        go_roundw
        case rel => exact ⟨0 + 1, by omega, by go_num, E3.out, Q3.out, q5.drewN _, below_drewN q4 _⟩
        case measure => simp [intOf]; omega
      · obtain ⟨j, hj⟩ : ∃ j, k = j + 1 := ⟨k - 1, by omega⟩
        have y0 := HCP.out j hj
        have hw1 : IntKind.i64.wrap ((k : Int) - 1) = (j : Int) := by rw [IntKind.wrap_i64]; omega
        have hjn : j < n := by omega
        have d0 : decide ((0 : Int) < (k : Int)) = true := by simp; omega
        have hkp : 0 < k := by omega
        have hlp := HLP.out j hj
        rw [hlp] at U2 U3
        obtain ⟨p0, hp0⟩ : ∃ x, (A j).i = x := ⟨_, rfl⟩
        rw [hp0] at U2 U3 y0
        clear HLP HL0 HCP hlp hp0 hj
        by_cases g3 : r0 ≤ p0
        · have e := U2.out (by omega) g3
          subst e
          clear U1 U2 U3
          go_wp2_with fail
          go_quiet (fail)
          go_wp2_with fail
          go_ret
          exact ⟨rfl, by rw [HH.out]; exact below_drewN q4 _⟩
        have E3 : Hid (rise (-1) (preE A (k + 1))) := U3.out (by omega) g3
        clear U1 U2 U3
        go_wp2_with fail
        go_quiet (fail)
        go_wp2_with fail
        go_roundw
        case rel => exact ⟨k + 1, by omega, by go_num, E3.out, Q3.out, q5.drewN _, below_drewN q4 _⟩
        case measure => simp [intOf]; omega
    · obtain rfl : k = n := by omega
      have e := S4.out q1
      subst e
      clear S1 S2 S3 S4 q1 q3
      go_wp2_with fail
      go_ret
      exact ⟨rfl, by rw [HH.out]; exact q4⟩
end Go.Proofs.YtpamjalgcloehaaGreat
