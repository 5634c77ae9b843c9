/-
  Texts Dl15, Dl16, Dl17, Fr10 in one.
-/
import Derived.Deep.Strs
import Derived.Test.YtokegpajjicehaaGreatP30
namespace Go.Proofs.YtokegpajjicehaaGreat
open Go.RowKit
set_option linter.unusedVariables false

theorem apl_cons : ∀ {R : List Rc} {x : En} {M : List En}, (∀ r ∈ R, x.i < r.i) → apl (x :: M) R = consO x (apl M R)
  | [], x, M, _ => rfl
  | r :: R, x, M, h => by
    have h1 := h r (by simp)
    rw [apl_cc, if_pos h1]
theorem put_chk {x : En} (h : 0 ≤ x.i ∧ x.i ≤ 65535) : chk (putR x) = 0 := by
  unfold chk putR
  rw [if_neg (by simp), if_neg (by simp only; omega), if_neg (by simp)]
theorem rem_chk {x : En} (h : 0 ≤ x.i ∧ x.i ≤ 65535) : chk (remR x) = 0 := by
  have e : emptyB (remR x) = true := (emptyB_iff _).2 ⟨⟨rfl, rfl, rfl, rfl, rfl, rfl⟩, rfl⟩
  unfold chk
  rw [e]
  unfold remR
  rw [if_neg (by simp), if_neg (by simp only; omega), if_neg (by simp)]
theorem put_ok' {x : En} (h : x.ok) : (putR x).ok := ⟨by unfold putR S64; simp only; omega, h.i, h.p0, h.p1, h.p2, h.v0, h.v1, h.v2, h.a⟩
theorem rem_ok' {x : En} (h : x.ok) : (remR x).ok := by
  refine ⟨?_, h.i, ?_, ?_, ?_, ?_, ?_, ?_, ?_⟩ <;> (unfold remR; try unfold S64) <;> simp only <;> omega
theorem w64_S (x : Int) : S64 (wrap64 x) := by unfold S64 wrap64; omega
theorem dif_ok' {a b : En} (hb : b.ok) : (difR a b).ok := by
  unfold difR
  split
  · unfold noRec
    exact ⟨by unfold S64; simp only; omega, by unfold S64; simp only; omega, by unfold S64; simp only; omega, by unfold S64; simp only; omega, by unfold S64; simp only; omega, by unfold S64; simp only; omega, by unfold S64; simp only; omega, by unfold S64; simp only; omega, by simp only; omega⟩
  · split
    · unfold updR
      refine ⟨by unfold S64; simp only; omega, hb.i, w64_S _, w64_S _, w64_S _, w64_S _, w64_S _, w64_S _, ?_⟩
      simp only [IntKind.wrap_u16]; omega
    · exact ⟨by unfold S64; simp only; omega, hb.i, hb.p0, hb.p1, hb.p2, hb.v0, hb.v1, hb.v2, hb.a⟩
theorem new_put {x : En} (h : x.g = 0) : newE (putR x) = x := by
  unfold newE putR
  rw [← h]
theorem consO_some {α : Type} {x : α} {o : Option (List α)} {R : List α} (h : consO x o = some R) : ∃ S, o = some S ∧ R = x :: S := by
  cases o with
  | none => cases h
  | some S => cases h; exact ⟨S, rfl, rfl⟩
/-- What apl needs at a record of the entity that stands first. -/
theorem apl_same {x : En} {M : List En} {r : Rc} {R : List Rc} (h : x.i = r.i) : apl (x :: M) (r :: R) = if r.k = 0 then none else if r.k = 2 then apl M R else consO (appN x r) (apl M R) := by
  rw [apl_cc, if_neg (by omega), if_pos h]
theorem apl_new {x : En} {M : List En} {r : Rc} {R : List Rc} (h : r.i < x.i) (hk : r.k = 0) : apl (x :: M) (r :: R) = consO (newE r) (apl (x :: M) R) := by
  rw [apl_cc, if_neg (by omega), if_neg (by omega), if_pos hk]
theorem apl_none {r : Rc} {R : List Rc} (hk : r.k = 0) : apl [] (r :: R) = consO (newE r) (apl [] R) := by
  rw [apl_nc, if_pos hk]
structure Told (last : Int) (A B : List En) (R : List Rc) : Prop where
  made : apl A R = some B
  asc_ : asc last R
  len : R.length ≤ A.length + B.length
  ok : ∀ r ∈ R, r.ok
theorem mrg_toldN : ∀ (n : Nat) (A B : List En) (last : Int) (R : List Rc), A.length + B.length < n → -1 ≤ last → rise last A → rise last B → (∀ x ∈ A, x.ok) → (∀ x ∈ B, x.ok) → mrg A B = some R → Told last A B R
  | 0, _, _, _, _, h, _, _, _, _, _, _ => absurd h (Nat.not_lt_zero _)
  | n + 1, [], [], last, R, _, hl, _, _, _, _, h => by
    rw [mrg_nn] at h
    cases h
    exact ⟨apl_nil _, trivial, by simp, fun r hr => by cases hr⟩
  | n + 1, a :: al, [], last, R, hn, hl, ha, hb, oa, ob, h => by
    rw [mrg_cn] at h
    obtain ⟨S, h1, rfl⟩ := consO_some h
    have ba := rise_lt ha a (by simp)
    have ih := mrg_toldN n al [] a.i S (by simp at hn ⊢; omega) (by omega) ha.2.2 trivial (fun x hx => oa x (by simp [hx])) ob h1
    refine ⟨?_, ⟨ha.1, ha.2.1, rem_chk (by omega), ih.asc_⟩, by have := ih.len; simp at this ⊢; omega, fun r hr => ?_⟩
    · rw [apl_same (show a.i = (remR a).i from rfl), if_neg (by unfold remR; simp), if_pos (by unfold remR; rfl)]
      exact ih.made
    · rcases List.mem_cons.1 hr with rfl | hr
      · exact rem_ok' (oa a (by simp))
      · exact ih.ok r hr
  | n + 1, [], b :: bs, last, R, hn, hl, ha, hb, oa, ob, h => by
    rw [mrg_nc] at h
    by_cases hg : b.g = 0
    · rw [if_neg (by simp [hg])] at h
      obtain ⟨S, h1, rfl⟩ := consO_some h
      have bb := rise_lt hb b (by simp)
      have ih := mrg_toldN n [] bs b.i S (by simp at hn ⊢; omega) (by omega) trivial hb.2.2 oa (fun x hx => ob x (by simp [hx])) h1
      refine ⟨?_, ⟨hb.1, hb.2.1, put_chk (by omega), ih.asc_⟩, by have := ih.len; simp at this ⊢; omega, fun r hr => ?_⟩
      · rw [apl_none (by unfold putR; rfl), ih.made, new_put hg]; rfl
      · rcases List.mem_cons.1 hr with rfl | hr
        · exact put_ok' (ob b (by simp))
        · exact ih.ok r hr
    · rw [if_pos hg] at h; cases h
  | n + 1, a :: al, b :: bs, last, R, hn, hl, ha, hb, oa, ob, h => by
    have ba := rise_lt ha a (by simp)
    have bb := rise_lt hb b (by simp)
    simp only [List.length_cons] at hn
    rw [mrg_cc] at h
    by_cases h1 : a.i < b.i
    · rw [if_pos h1] at h
      obtain ⟨S, h2, rfl⟩ := consO_some h
      have ih := mrg_toldN n al (b :: bs) a.i S (by simp; omega) (by omega) ha.2.2 ⟨h1, hb.2⟩ (fun x hx => oa x (by simp [hx])) ob h2
      refine ⟨?_, ⟨ha.1, ha.2.1, rem_chk (by omega), ih.asc_⟩, by have := ih.len; simp at this ⊢; omega, fun r hr => ?_⟩
      · rw [apl_same (show a.i = (remR a).i from rfl), if_neg (by unfold remR; simp), if_pos (by unfold remR; rfl)]
        exact ih.made
      · rcases List.mem_cons.1 hr with rfl | hr
        · exact rem_ok' (oa a (by simp))
        · exact ih.ok r hr
    · rw [if_neg h1] at h
      by_cases h2 : b.i < a.i
      · rw [if_pos h2] at h
        by_cases hg : b.g = 0
        · rw [if_neg (by simp [hg])] at h
          obtain ⟨S, h3, rfl⟩ := consO_some h
          have ih := mrg_toldN n (a :: al) bs b.i S (by simp; omega) (by omega) ⟨h2, ha.2⟩ hb.2.2 oa (fun x hx => ob x (by simp [hx])) h3
          refine ⟨?_, ⟨hb.1, hb.2.1, put_chk (by omega), ih.asc_⟩, by have := ih.len; simp at this ⊢; omega, fun r hr => ?_⟩
          · rw [apl_new (by exact h2) (by unfold putR; rfl), ih.made, new_put hg]; rfl
          · rcases List.mem_cons.1 hr with rfl | hr
            · exact put_ok' (ob b (by simp))
            · exact ih.ok r hr
        · rw [if_pos hg] at h; cases h
      · rw [if_neg h2] at h
        have h3 : a.i = b.i := by omega
        by_cases hg : b.g ≠ a.g ∧ b.g ≠ (a.g + 1) % 256
        · rw [if_pos hg] at h; cases h
        · rw [if_neg hg] at h
          by_cases he : entB a b = true
          · rw [if_pos he] at h
            have hab : a = b := (entB_iff _ _).1 he
            have ih := mrg_toldN n al bs a.i R (by omega) (by omega) ha.2.2 (by rw [h3]; exact hb.2.2) (fun x hx => oa x (by simp [hx])) (fun x hx => ob x (by simp [hx])) h
            refine ⟨?_, asc_mono (by omega) ih.asc_, by have := ih.len; simp; omega, ih.ok⟩
            rw [apl_cons (fun r hr => (asc_lt ih.asc_ r hr).1), ih.made, hab]; rfl
          · rw [if_neg he] at h
            obtain ⟨S, h4, rfl⟩ := consO_some h
            have hef : entB a b = false := by simpa using he
            have ih := mrg_toldN n al bs a.i S (by omega) (by omega) ha.2.2 (by rw [h3]; exact hb.2.2) (fun x hx => oa x (by simp [hx])) (fun x hx => ob x (by simp [hx])) h4
            have oka := oa a (by simp)
            have okb := ob b (by simp)
            have di := dif_i hef
            have key : chk (difR a b) = 0 ∧ appN a (difR a b) = b ∧ (difR a b).k ≠ 0 ∧ (difR a b).k ≠ 2 := by
              by_cases hgg : a.g = b.g
              · obtain ⟨e1, e2, e3, e4⟩ := made_upd oka okb h3 (by omega) (by omega) hgg hef
                rw [e1]
                exact ⟨e2, e4, by unfold updR; simp, by unfold updR; simp⟩
              · obtain ⟨e0, e1, e2, e3, e4⟩ := made_jump (a := a) (b := b) h3 (by omega) (by omega) (by omega) oka.g
                exact ⟨e2, e4, by rw [e1]; simp, by rw [e1]; simp⟩
            obtain ⟨k1, k2, k3, k4⟩ := key
            refine ⟨?_, ⟨by rw [di]; exact hb.1, by rw [di]; exact hb.2.1, k1, by rw [di, ← h3]; exact ih.asc_⟩, by have := ih.len; simp at this ⊢; omega, fun r hr => ?_⟩
            · rw [apl_same (by rw [di]; exact h3), if_neg k3, if_neg k4, k2, ih.made]; rfl
            · rcases List.mem_cons.1 hr with rfl | hr
              · exact dif_ok' okb
              · exact ih.ok r hr
theorem mrg_told (A B : List En) (last : Int) (R : List Rc) (hl : -1 ≤ last) (ha : rise last A) (hb : rise last B) (oa : ∀ x ∈ A, x.ok) (ob : ∀ x ∈ B, x.ok) (h : mrg A B = some R) : Told last A B R := mrg_toldN _ A B last R (Nat.lt_succ_self _) hl ha hb oa ob h
theorem pre_ent {A : Nat → En} {n : Nat} (h : ∀ i, i < n → (A i).ok) : ∀ x ∈ preE A n, x.ok := by
  intro x hx
  unfold preE at hx
  obtain ⟨i, hi, rfl⟩ := List.mem_map.1 hx
  exact h i (by simpa using hi)
/-- A row of records by their places. -/
def atR (L : List Rc) (i : Nat) : Rc := L.getD i noRec
theorem pre_atR (L : List Rc) : pre (atR L) L.length = L := by
  refine List.ext_getElem (by rw [pre_len]) fun i h1 h2 => ?_
  unfold pre atR
  simp [List.getD, h2]
theorem atR_ok {L : List Rc} (h : ∀ r ∈ L, r.ok) : ∀ i, i < L.length → (atR L i).ok := fun i hi => by
  unfold atR
  rw [List.getD_eq_getElem?_getD, List.getElem?_eq_getElem hi]
  exact h _ (List.getElem_mem hi)
theorem OwnR.atR {w : World} {B : Nat} {v : Value} {L : List Rc} (h : OwnR w B v L) : RdR w v L.length (atR L) := h.rdR
def atE (L : List En) (i : Nat) : En := L.getD i noEnt
theorem pre_atE (L : List En) : preE (atE L) L.length = L := by
  refine List.ext_getElem (by rw [preE_len]) fun i h1 h2 => ?_
  unfold preE atE
  simp [List.getD, h2]
theorem OwnE.atE {w : World} {B : Nat} {v : Value} {L : List En} (h : OwnE w B v L) : RdE w v L.length (atE L) := h.rdR
theorem rdE_congr {w : World} {v : Value} {n : Nat} {A A' : Nat → En} (h : RdE w v n A) (e : ∀ i, i < n → A i = A' i) : RdE w v n A' := by
  obtain ⟨ao, cap, e0, h1, h2, h3⟩ := h
  refine ⟨ao, cap, e0, h1, h2, ?_⟩
  rcases h3 with h | ⟨b, o, hb, hc⟩
  · exact Or.inl h
  · exact Or.inr ⟨b, o, hb, fun i hi j x hx => hc i hi j x (by rw [e i hi]; exact hx)⟩
theorem preE_at (A : Nat → En) (n i : Nat) (h : i < n) : atE (preE A n) i = A i := by
  unfold preE atE
  simp [List.getD, h]
theorem rdE_pre {w : World} {B : Nat} {v : Value} {A : Nat → En} {n : Nat} (h : OwnE w B v (preE A n)) : RdE w v n A := by
  have := h.atE
  rw [preE_len] at this
  exact rdE_congr this (fun i hi => preE_at A n i hi)
theorem gm_of_asc {R : List Rc} : ∀ {a : Int}, -1 ≤ a → a ≤ 65535 → asc a R → firE a R = 0 := by
  induction R with
  | nil => intro a _ _ _; rfl
  | cons r R ih =>
    intro a h1 h2 h
    have hw : wrE r a = 0 := by unfold wrE; rw [if_pos h.2.2.1, if_neg (by omega), if_neg (by have := h.1; omega)]
    show (if wrE r a = 0 then firE r.i R else wrE r a) = 0
    rw [if_pos hw]
    exact ih (by have := h.1; omega) h.2.1 h.2.2.2
/-- The datagram that tells one by another one may be; it makes that again. -/
theorem dl_told {t m : Int} {L : List En} {t' m' : Int} {L' : List En} (h : dlE t m L t' m' L' = 0) (oa : ∀ x ∈ L, x.ok) (ob : ∀ x ∈ L', x.ok) :
    snE t m L = 0 ∧ snE t' m' L' = 0 ∧ t < t' ∧ dlG t m L t' m' L' = ⟨t', m', t⟩ ∧ mrg L L' = some (dlL t m L t' m' L') ∧ Told (-1) L L' (dlL t m L t' m' L') := by
  have h1 : snE t m L = 0 := by
    by_cases q : snE t m L = 0
    · exact q
    · unfold dlE at h; rw [if_neg q] at h; exact absurd h q
  have h2 : snE t' m' L' = 0 := by
    by_cases q : snE t' m' L' = 0
    · exact q
    · unfold dlE at h; rw [if_pos h1, if_neg q] at h; exact absurd h q
  have h3 : ¬ t' ≤ t := by
    intro q
    unfold dlE at h; rw [if_pos h1, if_pos h2, if_pos q] at h; exact absurd h (by decide)
  have h4 : mrg L L' = some (dlL t m L t' m' L') := by
    unfold dlL
    rw [if_pos h]
    unfold dlE at h; rw [if_pos h1, if_pos h2, if_neg h3] at h
    cases q : mrg L L' with
    | none => rw [q] at h; exact absurd h (by decide)
    | some R => rfl
  refine ⟨h1, h2, by omega, by unfold dlG; rw [if_pos h], h4, mrg_told L L' (-1) _ (by omega) (sn_ok h1).2.2.2.2 (sn_ok h2).2.2.2.2 oa ob h4⟩
theorem told_gm {t m : Int} {L : List En} {t' m' : Int} {L' : List En} {R : List Rc} (h1 : snE t m L = 0) (h2 : snE t' m' L' = 0) (h3 : t < t') (h : Told (-1) L L' R) : gmE ⟨t', m', t⟩ (atR R) R.length = 0 := by
  obtain ⟨a0, a1, a2, a3, a4⟩ := sn_ok h1
  obtain ⟨b0, b1, b2, b3, b4⟩ := sn_ok h2
  have hl := h.len
  have hh : hedE ⟨t', m', t⟩ R.length = 0 := by
    unfold hedE
    rw [if_neg, if_neg (by simp only; omega), if_neg (by omega)]
    simp only [b2]
    rintro (q | q | q | q)
    · omega
    · omega
    · cases q
    · omega
  unfold gmE
  rw [if_pos hh, pre_atR]
  exact gm_of_asc (by omega) (by omega) h.asc_
theorem told_back {t m : Int} {L : List En} {t' m' : Int} {L' : List En} {R : List Rc} (h1 : snE t m L = 0) (h2 : snE t' m' L' = 0) (h3 : t < t') (h : Told (-1) L L' R) :
    aplE t m L ⟨t', m', t⟩ (atR R) R.length = 0 ∧ apT t m L ⟨t', m', t⟩ (atR R) R.length = t' ∧ apM t m L ⟨t', m', t⟩ (atR R) R.length = m' ∧ aplL t m L ⟨t', m', t⟩ (atR R) R.length = L' := by
  have hg := told_gm h1 h2 h3 h
  obtain ⟨a0, a1, a2, a3, a4⟩ := sn_ok h1
  obtain ⟨b0, b1, b2, b3, b4⟩ := sn_ok h2
  have hb : (⟨t', m', t⟩ : Gm).b ≠ -1 := by simp only; omega
  have hw : wasL (⟨t', m', t⟩ : Gm).b L = L := by unfold wasL; rw [if_neg hb]
  have hr : rise (-1) (wasL (⟨t', m', t⟩ : Gm).b L) := by rw [hw]; exact a4
  have e := (apl_end hg (fun q => q.2 h1) (fun q => q.2 rfl) hr (gm_asc hg)).2.2 L' (by
    rw [← apl_all _ _ _ hr (gm_asc hg), hw, pre_atR]; exact h.made) (by omega)
  exact e
end Go.Proofs.YtokegpajjicehaaGreat

namespace Go.Proofs.YtokegpajjicehaaGreat
open Go.RowKit
set_option linter.unusedVariables false
set_option maxRecDepth 20000

def e7 : En := ⟨7, 0, 0, 0, 0, 0, 0, 5, 0⟩
theorem e7_ok : e7.ok := by constructor <;> (unfold e7; first | (unfold S64; simp only; omega) | (simp only; omega))
theorem sn_e7 (t : Int) (h : 0 ≤ t ∧ t ≤ 5) : snE t 0 [e7] = 0 ∧ snE t 0 [] = 0 := by
  constructor
  · unfold snE
    rw [if_neg (by unfold timB; simp; omega), if_neg (by simp)]
    unfold idsE e7 idsE
    simp
  · unfold snE
    rw [if_neg (by unfold timB; simp; omega), if_neg (by simp)]
    rfl
theorem mrg_e7 : mrg [] [e7] = some [putR e7] ∧ mrg [e7] [] = some [remR e7] := by
  constructor
  · rw [mrg_nil]; simp [e7]
  · rfl
theorem ex_one : dlE 1 0 [] 2 0 [e7] = 0 ∧ dlL 1 0 [] 2 0 [e7] = [putR e7] := by
  have h : dlE 1 0 [] 2 0 [e7] = 0 := by
    unfold dlE
    rw [if_pos (sn_e7 1 (by omega)).2, if_pos (sn_e7 2 (by omega)).1, if_neg (by omega), mrg_e7.1]; rfl
  refine ⟨h, ?_⟩
  unfold dlL; rw [if_pos h, mrg_e7.1]; rfl
theorem ex_two : dlE 0 0 [e7] 1 0 [] = 0 ∧ dlL 0 0 [e7] 1 0 [] = [remR e7] := by
  have h : dlE 0 0 [e7] 1 0 [] = 0 := by
    unfold dlE
    rw [if_pos (sn_e7 0 (by omega)).1, if_pos (sn_e7 1 (by omega)).2, if_neg (by omega), mrg_e7.2]; rfl
  refine ⟨h, ?_⟩
  unfold dlL; rw [if_pos h, mrg_e7.2]; rfl
theorem pre_e7 : preE (fun _ => e7) 1 = [e7] := rfl
theorem pre_no (A : Nat → En) : preE A 0 = [] := rfl
/-- A row of one record that the call owns. -/
theorem own_one {w : World} {B : Nat} {v : Value} {r : Rc} (h : OwnR w B v [r]) : ∃ g cap, v = .slice (some ⟨g, 0, none⟩) 1 cap ∧ B ≤ g ∧ g < w.heap.size ∧ 1 ≤ cap ∧ cap ≤ 9223372036854775807 ∧ ∀ j x, (recC r)[j]? = some x → w.cell? ⟨g, j, none⟩ = some x := by
  obtain ⟨g, cap, e, h1, h2, h3, h4, h5⟩ := h.cells (by simp)
  exact ⟨g, cap, e, h1, h2, h3, h4, fun j x hx => by have := h5 0 (by simp) j x hx; simpa using this⟩
theorem own_one_e {w : World} {B : Nat} {v : Value} {r : En} (h : OwnE w B v [r]) : ∃ g cap, v = .slice (some ⟨g, 0, none⟩) 1 cap ∧ B ≤ g ∧ g < w.heap.size ∧ 1 ≤ cap ∧ cap ≤ 9223372036854775807 ∧ ∀ j x, (entC r)[j]? = some x → w.cell? ⟨g, j, none⟩ = some x := by
  obtain ⟨g, cap, e, h1, h2, h3, h4, h5⟩ := h.cells (by simp)
  exact ⟨g, cap, e, h1, h2, h3, h4, fun j x hx => by have := h5 0 (by simp) j x hx; simpa using this⟩
theorem al_diff1 (w : World) (H : Nat) (h : RdE w (.slice (some ⟨H, 0, none⟩) 1 1) 1 (fun _ => e7)) : Calls Tryz.prog 10 #[snV 1 0 (.slice none 0 0), snV 2 0 (.slice (some ⟨H, 0, none⟩) 1 1)] w fun e w' => ∃ u, e = .returned (.tuple #[gmV ⟨2, 0, 1⟩ u, .int .i64 0]) ∧ OwnR w' w.heap.size u [putR e7] ∧ Below w.heap.size w w' := by
  have := dl_diff w 1 0 (.slice none 0 0) 0 (fun _ => noEnt) (fun i h => absurd h (by omega)) (RdE.none _) 2 0 (.slice (some ⟨H, 0, none⟩) 1 1) 1 (fun _ => e7) h
  rw [pre_no, pre_e7, ex_one.1, ex_one.2] at this
  have e : dlG 1 0 [] 2 0 [e7] = ⟨2, 0, 1⟩ := by unfold dlG; rw [if_pos ex_one.1]
  rw [e] at this
  exact this
theorem al_diff2 (w : World) (H : Nat) (h : RdE w (.slice (some ⟨H, 0, none⟩) 1 1) 1 (fun _ => e7)) : Calls Tryz.prog 10 #[snV 0 0 (.slice (some ⟨H, 0, none⟩) 1 1), snV 1 0 (.slice none 0 0)] w fun e w' => ∃ u, e = .returned (.tuple #[gmV ⟨1, 0, 0⟩ u, .int .i64 0]) ∧ OwnR w' w.heap.size u [remR e7] ∧ Below w.heap.size w w' := by
  have := dl_diff w 0 0 (.slice (some ⟨H, 0, none⟩) 1 1) 1 (fun _ => e7) (fun i h => e7_ok) h 1 0 (.slice none 0 0) 0 (fun _ => noEnt) (RdE.none _)
  rw [pre_no, pre_e7, ex_two.1, ex_two.2] at this
  have e : dlG 0 0 [e7] 1 0 [] = ⟨1, 0, 0⟩ := by unfold dlG; rw [if_pos ex_two.1]
  rw [e] at this
  exact this
theorem al_apply (w : World) (u : Value) (h : RdR w u 1 (atR [putR e7])) : Calls Tryz.prog 34 #[snV 1 0 (.slice none 0 0), gmV ⟨2, 0, 1⟩ u] w fun e w' => ∃ u, e = .returned (.tuple #[snV 2 0 u, .int .i64 0]) ∧ OwnE w' w.heap.size u [e7] ∧ Below w.heap.size w w' := by
  have oa : ∀ x ∈ ([] : List En), x.ok := fun x hx => by cases hx
  have ob : ∀ x ∈ [e7], x.ok := fun x hx => by simp at hx; subst hx; exact e7_ok
  obtain ⟨h1, h2, h3, h4, h5, h6⟩ := dl_told ex_one.1 oa ob
  rw [ex_one.2] at h6
  obtain ⟨k1, k2, k3, k4⟩ := told_back h1 h2 h3 h6
  have := dl_apply w 1 0 (.slice none 0 0) 0 (fun _ => noEnt) (RdE.none _) ⟨2, 0, 1⟩ ⟨by unfold S64; simp only; omega, by unfold S64; simp only; omega, by unfold S64; simp only; omega⟩ u 1 (atR [putR e7]) (atR_ok h6.ok) h
  rw [pre_no] at this
  have k1' : aplE 1 0 [] ⟨2, 0, 1⟩ (atR [putR e7]) 1 = 0 := k1
  have k2' : apT 1 0 [] ⟨2, 0, 1⟩ (atR [putR e7]) 1 = 2 := k2
  have k3' : apM 1 0 [] ⟨2, 0, 1⟩ (atR [putR e7]) 1 = 0 := k3
  have k4' : aplL 1 0 [] ⟨2, 0, 1⟩ (atR [putR e7]) 1 = [e7] := k4
  rw [k1', k2', k3', k4'] at this
  exact this
theorem rd_e7 {w : World} {H : Nat} (h : Blk w H [.int .i64 7, .int .i64 0, .int .i64 0, .int .i64 0, .int .i64 0, .int .i64 0, .int .i64 0, .int .u16 5, .int .u8 0]) : RdE w (.slice (some ⟨H, 0, none⟩) 1 1) 1 (fun _ => e7) := by
  refine ⟨_, 1, rfl, Nat.le_refl _, by omega, Or.inr ⟨H, 0, rfl, fun i hi j x hx => ?_⟩⟩
  obtain rfl : i = 0 := by omega
  have := h.cell j x hx
  simpa using this
set_option maxHeartbeats 4000000 in
theorem dl_alive (w : World) : Calls Tryz.prog 9 #[] w fun e w' => e = .returned (.bool true) ∧ Below w.heap.size w w' := by
  go_enter Tryz.func9, Tryz.ntmps9
  go_wp2_with fail
  generalize hW : ((w.alloc (.cells #[.int .i64 7, .int .i64 0, .int .i64 0, .int .i64 0, .int .i64 0, .int .i64 0, .int .i64 0, .int .u16 5, .int .u8 0] 40)).alloc (.cells #[.int .i64 1, .int .i64 0, .slice none 0 0] 24)).alloc (.cells #[.int .i64 2, .int .i64 0, .slice (some ⟨w.heap.size, 0, none⟩) 1 1] 24) = W
  obtain ⟨E0, A0, B0, b0, -⟩ := boxed3 hW
  obtain ⟨H, hH⟩ : ∃ H, w.heap.size = H := ⟨_, rfl⟩
  have HH : Hid (w.heap.size = H) := hH
  rw [hH] at E0 A0 B0 b0
  rw [hH]
  clear hW hH
  refine (al_diff1 _ H (rd_e7 E0)).mono ?_; rintro e w1 ⟨u1, rfl, own1, b1⟩
  have E1 := E0.below b1 E0.lt
  have A1 := A0.below b1 A0.lt
  have B1 := B0.below b1 B0.lt
  have q1 : Below H w w1 := bup b0 (Nat.le_of_eq HH.out.symm) b1
  have R1 : Hid (RdR w1 u1 1 (atR [putR e7])) := own1.atR
  obtain ⟨g1, c1, rfl, lo1, hi1, hc1, hm1, hr1⟩ := own_one own1
  have z1 := hr1 0 _ rfl
  have lH : H + 1 + 1 < W.heap.size := B0.lt
  have ng : H + 1 + 1 < g1 := by omega
  clear own1 hr1 b0 b1 E0 A0 B0 lo1 lH
  have a0 := A1.cell 0 _ rfl
  have a1 := A1.cell 1 _ rfl
  have a2 := A1.cell 2 _ rfl
  have la := A1.lt
  go_wp2_with fail
  generalize hW : w1.alloc (.cells #[.int .i64 2, .int .i64 0, .int .i64 1, .slice (some ⟨g1, 0, none⟩) 1 c1] 29) = W2
  obtain ⟨G2, b2, -⟩ := boxed hW
  have E2 := E1.below b2 E1.lt
  have A2 := A1.below b2 A1.lt
  have B2 := B1.below b2 B1.lt
  have q2 : Below H w W2 := bup q1 (Nat.le_of_eq HH.out.symm) b2
  have R2 : Hid (RdR W2 (.slice (some ⟨g1, 0, none⟩) 1 c1) 1 (atR [putR e7])) := R1.out.below b2
  have z2 := (b2.cell (p := ⟨g1, 0, none⟩) hi1).trans z1
  obtain ⟨GB, hG⟩ : ∃ x, w1.heap.size = x := ⟨_, rfl⟩
  rw [hG] at G2 hi1
  rw [hG]
  clear hW hG a0 a1 a2 la E1 A1 B1 q1 R1 z1 b2
  refine (al_apply _ _ R2.out).mono ?_; rintro e w3 ⟨u3, rfl, own3, b3⟩
  have E3 := E2.below b3 E2.lt
  have A3 := A2.below b3 A2.lt
  have B3 := B2.below b3 B2.lt
  have G3 := G2.below b3 G2.lt
  have lg2 := G2.lt
  have q3 : Below H w w3 := bup q2 (Nat.le_of_eq HH.out.symm) b3
  have z3 := (b3.cell (p := ⟨g1, 0, none⟩) (by show g1 < _; omega)).trans z2
  obtain ⟨g3, c3, rfl, lo3, hi3, hc3, hm3, hr3⟩ := own_one_e own3
  have y3 := hr3 7 _ rfl
  clear own3 hr3 b3 E2 A2 B2 G2 q2 R2 z2
  go_upto_region 4 with fail
  generalize hW : w3.alloc (.cells #[.int .i64 2, .int .i64 0, .slice (some ⟨g3, 0, none⟩) 1 c3] 24) = W4
  obtain ⟨S4, b4, -⟩ := boxed hW
  have E4 := E3.below b4 E3.lt
  have A4 := A3.below b4 A3.lt
  have B4 := B3.below b4 B3.lt
  have G4 := G3.below b4 G3.lt
  have q4 : Below H w W4 := bup q3 (Nat.le_of_eq HH.out.symm) b4
  have z4 := (b4.cell (p := ⟨g1, 0, none⟩) (by show g1 < _; have := G3.lt; omega)).trans z3
  have y4 := (b4.cell (p := ⟨g3, 7, none⟩) hi3).trans y3
  obtain ⟨SB, hS⟩ : ∃ x, w3.heap.size = x := ⟨_, rfl⟩
  have lGS : GB < SB := by rw [← hS]; exact G3.lt
  rw [hS] at S4 hi3
  rw [hS]
  clear hW hS E3 A3 B3 G3 q3 z3 y3 b4
  have d0 := B4.cell 0 _ rfl
  have f0 := B4.froz 0
  have lb := B4.lt
  go_upto_region 5 with fail
  have E5 := E4.other (p := ⟨H + 1 + 1, 0, none⟩) (by show H + 1 + 1 ≠ H; omega) (.int .i64 0)
  have A5 := A4.other (p := ⟨H + 1 + 1, 0, none⟩) (by show H + 1 + 1 ≠ H + 1; omega) (.int .i64 0)
  have B5 : Blk (W4.setCell ⟨H + 1 + 1, 0, none⟩ (.int .i64 0)) (H + 1 + 1) [.int .i64 0, .int .i64 0, .slice (some ⟨H, 0, none⟩) 1 1] := B4.set 0 (.int .i64 0) (by simp)
  have lgb : g1 < GB := hi1
  have G5 := G4.other (p := ⟨H + 1 + 1, 0, none⟩) (by show H + 1 + 1 ≠ GB; omega) (.int .i64 0)
  have S5 := S4.other (p := ⟨H + 1 + 1, 0, none⟩) (by show H + 1 + 1 ≠ SB; omega) (.int .i64 0)
  have z5 := far1c (i := 0) (x := .int .i64 0) z4 (show H + 1 + 1 ≠ g1 by omega)
  have y5 := far1c (i := 0) (x := .int .i64 0) y4 (show H + 1 + 1 ≠ g3 by omega)
  have q5 : Below H w _ := q4.setCell (p := ⟨H + 1 + 1, 0, none⟩) (by show H ≤ H + 1 + 1; omega) (.int .i64 0)
  generalize W4.setCell ⟨H + 1 + 1, 0, none⟩ (.int .i64 0) = W5 at E5 A5 B5 G5 S5 z5 y5 q5 ⊢
  clear E4 A4 B4 G4 S4 z4 y4 q4 d0 f0 lb
  have a0 := A5.cell 0 _ rfl
  have a1 := A5.cell 1 _ rfl
  have a2 := A5.cell 2 _ rfl
  have la := A5.lt
  have d0 := B5.cell 0 _ rfl
  have d1 := B5.cell 1 _ rfl
  have d2 := B5.cell 2 _ rfl
  have lb := B5.lt
  go_wp2_with fail
  refine (al_diff2 _ H (rd_e7 E5)).mono ?_; rintro e w6 ⟨u6, rfl, own6, b6⟩
  have G6 := G5.below b6 G5.lt
  have S6 := S5.below b6 S5.lt
  have q6 : Below H w w6 := bup q5 (Nat.le_of_eq HH.out.symm) b6
  have z6 := (b6.cell (p := ⟨g1, 0, none⟩) (by show g1 < _; have := G5.lt; omega)).trans z5
  have y6 := (b6.cell (p := ⟨g3, 7, none⟩) (by show g3 < _; have := S5.lt; omega)).trans y5
  obtain ⟨g6, c6, rfl, lo6, hi6, hc6, hm6, hr6⟩ := own_one own6
  have k6 := hr6 0 _ rfl
  clear own6 hr6 b6 E5 A5 B5 G5 S5 z5 y5 q5 a0 a1 a2 la d0 d1 d2 lb
  go_upto_region 6 with fail
  generalize hW : w6.alloc (.cells #[.int .i64 1, .int .i64 0, .int .i64 0, .slice (some ⟨g6, 0, none⟩) 1 c6] 29) = W7
  obtain ⟨K7, b7, -⟩ := boxed hW
  have G7 := G6.below b7 G6.lt
  have S7 := S6.below b7 S6.lt
  have q7 : Below H w W7 := bup q6 (Nat.le_of_eq HH.out.symm) b7
  have z7 := (b7.cell (p := ⟨g1, 0, none⟩) (by show g1 < _; have := G6.lt; omega)).trans z6
  have y7 := (b7.cell (p := ⟨g3, 7, none⟩) (by show g3 < _; have := S6.lt; omega)).trans y6
  have k7 := (b7.cell (p := ⟨g6, 0, none⟩) hi6).trans k6
  obtain ⟨KB, hK⟩ : ∃ x, w6.heap.size = x := ⟨_, rfl⟩
  rw [hK] at K7
  rw [hK]
  have lg1 : g1 < W7.heap.size := by have := G7.lt; omega
  have lg3 : g3 < W7.heap.size := by have := S7.lt; omega
  have lg6 : g6 < W7.heap.size := World.block_lt_of_cell? W7 _ k7
  clear hW hK z6 y6 k6 G6 S6 q6 b7
  have v3 := G7.cell 3 _ rfl
  have lv := G7.lt
  have s2 := S7.cell 2 _ rfl
  have ls := S7.lt
  have t3 := K7.cell 3 _ rfl
  have lt := K7.lt
  go_wp2_with fail
  go_ret
  exact ⟨rfl, by rw [HH.out]; exact q7⟩
set_option maxHeartbeats 1000000 in
theorem dl_great (w : World) (S n cap : Nat) (hcap : n ≤ cap) (hm : cap ≤ 1000) (T M : Nat → Int) (O : Nat → Option Addr) (L C : Nat → Nat) (q : Bool) (hq : q = true ↔ ∃ k, k < n ∧ 100 < L k)
    (h : ∀ k, k < n → w.cell? ⟨S, k * 3, none⟩ = some (.int .i64 (T k)) ∧ w.cell? ⟨S, k * 3 + 1, none⟩ = some (.int .i64 (M k)) ∧ w.cell? ⟨S, k * 3 + 2, none⟩ = some (.slice (O k) (L k) (C k))) :
    Calls Tryz.prog 8 #[.slice (some ⟨S, 0, none⟩) n cap] w fun e w' => e = .returned (.bool q) ∧ Below w.heap.size w w' := by
  have HC : Hid (∀ k, k < n → w.cell? ⟨S, k * 3, none⟩ = some (.int .i64 (T k)) ∧ w.cell? ⟨S, k * 3 + 1, none⟩ = some (.int .i64 (M k)) ∧ w.cell? ⟨S, k * 3 + 2, none⟩ = some (.slice (O k) (L k) (C k))) := h
  have HY : Hid (∀ k, k < n → 100 < L k → q = true) := fun k hk hl => hq.2 ⟨k, hk, hl⟩
  have HN : Hid ((∀ k, k < n → ¬ 100 < L k) → q = false) := fun h => by
    cases q
    · rfl
    · obtain ⟨k, hk, hl⟩ := hq.1 rfl
      exact absurd hl (h k hk)
  clear h hq
  go_enter Tryz.func8, Tryz.ntmps8
  go_wp2_with fail
  go_loopw [7] (fun i wr => ∃ k : Nat, k ≤ n ∧ i = .int .i64 k ∧ (∀ j, j < k → ¬ 100 < L j) ∧ Below w.heap.size w wr) (fun i _ => n - (intOf i).toNat)
  case atStart => exact ⟨0, by omega, rfl, fun j hj => by omega, Below.refl _ _⟩
  case round =>
    obtain ⟨k, hk, rfl, hj, q5⟩ := hrel
    have HJ : Hid (∀ j, j < k → ¬ 100 < L j) := hj
    clear hj
    by_cases hlt : k < n
    · obtain ⟨c0, c1, c2⟩ := HC.out k hlt
      have y0 := (q5.cell (p := ⟨S, k * 3, none⟩) (World.block_lt_of_cell? w _ c0)).trans c0
      have y1 := (q5.cell (p := ⟨S, k * 3 + 1, none⟩) (World.block_lt_of_cell? w _ c1)).trans c1
      have y2 := (q5.cell (p := ⟨S, k * 3 + 2, none⟩) (World.block_lt_of_cell? w _ c2)).trans c2
      have ls : S < wr.heap.size := World.block_lt_of_cell? wr _ y0
      have K1 : Hid (100 < L k → q = true) := HY.out k hlt
      obtain ⟨lk, hlk⟩ : ∃ x, L k = x := ⟨_, rfl⟩
      have HLK : Hid (L k = lk) := hlk
      obtain ⟨tk, htk⟩ : ∃ x, T k = x := ⟨_, rfl⟩
      obtain ⟨mk, hmk⟩ : ∃ x, M k = x := ⟨_, rfl⟩
      obtain ⟨ok, hok⟩ : ∃ x, O k = x := ⟨_, rfl⟩
      obtain ⟨ck, hck⟩ : ∃ x, C k = x := ⟨_, rfl⟩
      rw [htk] at y0
      rw [hmk] at y1
      rw [hok, hlk, hck] at y2
      rw [hlk] at K1
      clear c0 c1 c2 hlk htk hmk hok hck HC HY
      by_cases hb : 100 < lk
      · have e := K1.out hb
        subst e
        clear K1
        go_wp2_with fail
        go_ret
        exact ⟨rfl, q5.alloc q5.size _⟩
      · clear K1
        go_wp2_with fail
        go_roundw
        case rel =>
          refine ⟨k + 1, by omega, by go_num, fun j hj => ?_, q5.alloc q5.size _⟩
          by_cases e : j = k
          · subst e; rw [HLK.out]; omega
          · exact HJ.out j (by omega)
        case measure => simp [intOf]; omega
    · obtain rfl : k = n := by omega
      have e := HN.out HJ.out
      subst e
      clear HN HY HC
      go_wp2_with fail
      go_ret
      exact ⟨rfl, q5⟩
end Go.Proofs.YtokegpajjicehaaGreat

namespace Go.Proofs.YtokegpajjicehaaGreat
open Go.RowKit
set_option linter.unusedVariables false

theorem dl_again (w : World) (t m : Int) (v : Value) (n : Nat) (A : Nat → En) (hA : ∀ i, i < n → (A i).ok) (hv : RdE w v n A) (t' m' : Int) (n' : Nat) (A' : Nat → En) (hA' : ∀ i, i < n' → (A' i).ok) (R : List Rc)
    (h : dlE t m (preE A n) t' m' (preE A' n') = 0) (hR : R = dlL t m (preE A n) t' m' (preE A' n')) (gv : Value) (hg : RdR w gv R.length (atR R)) :
    Calls Tryz.prog 34 #[snV t m v, gmV ⟨t', m', t⟩ gv] w fun e w' => ∃ u, e = .returned (.tuple #[snV t' m' u, .int .i64 0]) ∧ OwnE w' w.heap.size u (preE A' n') ∧ Below w.heap.size w w' := by
  obtain ⟨h1, h2, h3, h4, h5, h6⟩ := dl_told h (pre_ent hA) (pre_ent hA')
  rw [← hR] at h6
  obtain ⟨a0, a1, a2, a3, a4⟩ := sn_ok h1
  obtain ⟨b0, b1, b2, b3, b4⟩ := sn_ok h2
  have hm : S64 m' := by unfold timB at b2; simp at b2; unfold S64; omega
  obtain ⟨k1, k2, k3, k4⟩ := told_back h1 h2 h3 h6
  have := dl_apply w t m v n A hv ⟨t', m', t⟩ ⟨by unfold S64; simp only; omega, hm, by unfold S64; simp only; omega⟩ gv R.length (atR R) (atR_ok h6.ok) hg
  rw [k1, k2, k3, k4] at this
  exact this
/-- Of a datagram that tells one by another one: its head. -/
theorem dl_head {t m : Int} {L : List En} {t' m' : Int} {L' : List En} (h : dlE t m L t' m' L' = 0) : dlG t m L t' m' L' = ⟨t', m', t⟩ := by unfold dlG; rw [if_pos h]
/-- Told by none. -/
theorem ful_told {t m : Int} {L : List En} (h : fulE t m L = 0) (ob : ∀ x ∈ L, x.ok) : snE t m L = 0 ∧ fulG t m L = ⟨t, m, -1⟩ ∧ Told (-1) [] L (fulL t m L) := by
  have h1 : snE t m L = 0 := by
    by_cases q : snE t m L = 0
    · exact q
    · unfold fulE at h; rw [if_neg q] at h; exact absurd h q
  refine ⟨h1, by unfold fulG; rw [if_pos h], ?_⟩
  have hm : mrg [] L = some (fulL t m L) := by
    rw [mrg_nil]
    unfold fulL
    rw [if_pos h]
    unfold fulE at h
    rw [if_pos h1] at h
    split at h
    · exact absurd h (by decide)
    · rename_i q; rw [if_neg q]
  exact mrg_told [] L (-1) _ (by omega) trivial (sn_ok h1).2.2.2.2 (fun x hx => by cases hx) ob hm
theorem dl_again0 (w : World) (t m : Int) (v : Value) (n : Nat) (A : Nat → En) (hv : RdE w v n A) (t' m' : Int) (n' : Nat) (A' : Nat → En) (hA' : ∀ i, i < n' → (A' i).ok) (R : List Rc)
    (h : fulE t' m' (preE A' n') = 0) (hR : R = fulL t' m' (preE A' n')) (gv : Value) (hg : RdR w gv R.length (atR R)) :
    Calls Tryz.prog 34 #[snV t m v, gmV ⟨t', m', -1⟩ gv] w fun e w' => ∃ u, e = .returned (.tuple #[snV t' m' u, .int .i64 0]) ∧ OwnE w' w.heap.size u (preE A' n') ∧ Below w.heap.size w w' := by
  obtain ⟨h2, h4, h6⟩ := ful_told h (pre_ent hA')
  rw [← hR] at h6
  obtain ⟨b0, b1, b2, b3, b4⟩ := sn_ok h2
  have hl := h6.len
  have hm : S64 m' := by unfold timB at b2; simp at b2; unfold S64; omega
  have hg0 : gmE ⟨t', m', -1⟩ (atR R) R.length = 0 := by
    have hh : hedE ⟨t', m', -1⟩ R.length = 0 := by
      unfold hedE
      rw [if_neg, if_neg (by simp only; omega), if_neg (by simp at hl; omega)]
      simp only [b2]
      rintro (q | q | q | q)
      · omega
      · omega
      · cases q
      · omega
    unfold gmE
    rw [if_pos hh, pre_atR]
    exact gm_of_asc (by omega) (by omega) h6.asc_
  have hw : wasL (⟨t', m', -1⟩ : Gm).b (preE A n) = [] := by unfold wasL; rw [if_pos rfl]
  obtain ⟨k1, k2, k3, k4⟩ := (apl_end (t := t) (m := m) (L := preE A n) hg0 (fun q => q.1 rfl) (fun q => q.1 rfl) (by rw [hw]; trivial) (gm_asc hg0)).2.2 (preE A' n') (by
    rw [← apl_all _ _ (-1) (by rw [hw]; trivial) (gm_asc hg0), hw, pre_atR]; exact h6.made) (by omega)
  have := dl_apply w t m v n A hv ⟨t', m', -1⟩ ⟨by unfold S64; simp only; omega, hm, by unfold S64; simp only; omega⟩ gv R.length (atR R) (atR_ok h6.ok) hg
  rw [k1, k2, k3, k4] at this
  exact this
end Go.Proofs.YtokegpajjicehaaGreat

namespace Go.Proofs.YtokegpajjicehaaGreat
open Go.ChangeShapes Go.WideShapes Go.ChangeAt Go.RowKit Go.Joins
set_option linter.unusedVariables false
variable {H : Type} {enc : TypeId × Value → H}

theorem cells_snap : Tryz.prog.cellsOf 24 = 3 := by kernel_rfl
theorem cells_ents : Tryz.prog.cellsOf 22 = 1 := by kernel_rfl
set_option maxRecDepth 20000 in
theorem trod_ents {W : World} {fuel : Nat} {cs : List Value} {x : DataW H × List MemPlace} (hf : DataW.trod enc Tryz.prog W 0 (fun _ => true) true fuel 22 cs = some x) :
    ∃ (v : Value) (n : Nat) (A : Nat → En), cs = [v] ∧ (∀ i, i < n → (A i).ok) ∧ RdE W v n A := by
  rcases Go.Deep.open_slice Tryz.underlying22 hf with ⟨hcs, hx⟩ | ⟨a, len2, cap, m, n, D, Pl, hcs, _, hl, hm, hmm, hx, hel⟩
  · exact ⟨_, 0, fun _ => noEnt, hcs, fun i hi => by omega, none, 0, rfl, Nat.le_refl _, by omega, Or.inl rfl⟩
  · simp only [if_true] at hmm
    subst hmm
    rw [cells_ent] at hel
    have each : ∀ i, i < m → ∃ r : En, (∀ j x, (entC r)[j]? = some x → W.cell? (a.add (i * 9 + j)) = some x) ∧ r.ok := by
      intro i hi
      obtain ⟨cs', h1, h2⟩ := hel i hi
      obtain ⟨_, hlen, hcell⟩ := World.cells?_some h1
      obtain ⟨r, rfl, ok⟩ := trod_ent h2
      refine ⟨r, fun j x hj => ?_, ok⟩
      have hj' : j < 9 := (List.getElem?_eq_some_iff.1 hj).1
      have c := hcell j (by exact hj')
      rw [Go.Deep.add_add] at c
      rw [c]; exact hj
    haveI : Inhabited En := ⟨noEnt⟩
    obtain ⟨A, hA⟩ := Go.Deep.choose_lt each
    refine ⟨_, len2, A, hcs, fun i hi => (hA i (by omega)).2, some a, m, rfl, hl, hm, ?_⟩
    by_cases h0 : len2 = 0
    · exact Or.inl h0
    · right
      obtain ⟨ab, ao, spot⟩ := a
      have hspot : spot = none := by simpa [Addr.add] using World.cell?_spot ((hA 0 (by omega)).1 0 _ rfl)
      subst hspot
      refine ⟨ab, ao, rfl, fun i hi j x hj => ?_⟩
      have := (hA i (by omega)).1 j x hj
      simp only [Addr.add_lit] at this
      rw [Nat.add_assoc]; exact this
set_option maxRecDepth 20000 in
theorem trod_snap {w : World} {fuel : Nat} {cs : List Value} {x : DataW H × List MemPlace} (h : DataW.trod enc Tryz.prog w 0 (fun _ => true) true fuel 24 cs = some x) :
    ∃ (t m : Int) (u : Value) (n : Nat) (A : Nat → En), cs = [.int .i64 t, .int .i64 m, u] ∧ S64 t ∧ S64 m ∧ (∀ i, i < n → (A i).ok) ∧ RdE w u n A := by
  obtain ⟨y0, y1, y2, n, _, hl, g0, g1, g2⟩ := Go.Deep.trod_struct3 Tryz.underlying24 h
  rw [cells_snap] at hl
  match cs, hl with
  | [c0, c1, c2], _ =>
    simp [cells_i64, cells_ents] at g0 g1 g2
    obtain ⟨z0, e0, _, w0⟩ := DataW.trod_int Tryz.underlying2 g0
    obtain ⟨z1, e1, _, w1⟩ := DataW.trod_int Tryz.underlying2 g1
    obtain ⟨u, k, A, e2, hA, hr⟩ := trod_ents g2
    simp at e0 e1 e2
    subst e0 e1 e2
    exact ⟨z0, z1, _, k, A, rfl, wf_i64 w0, wf_i64 w1, hA, hr⟩
set_option maxRecDepth 20000 in
theorem open_snap {W : World} {base : Nat} {v : Value} {d : DataW H} {p : List MemPlace} (hval : Value.okWide Tryz.prog W .any base 24 v) (h : DataW.Trod enc Tryz.prog W 0 (fun _ => true) true 24 v d p) :
    ∃ (t m : Int) (u : Value) (n : Nat) (A : Nat → En), v = snV t m u ∧ S64 t ∧ S64 m ∧ (∀ i, i < n → (A i).ok) ∧ RdE W u n A := by
  obtain ⟨cs, rfl, _⟩ := okWide_struct Tryz.underlying24 hval
  obtain ⟨fuel, hf⟩ := h
  obtain ⟨t, m, u, n, A, e, h1, h2, hA, hr⟩ := trod_snap hf
  refine ⟨t, m, u, n, A, ?_, h1, h2, hA, hr⟩
  have : cs = #[.int .i64 t, .int .i64 m, u] := by simpa [Value.cells] using congrArg List.toArray e
  rw [this]
end Go.Proofs.YtokegpajjicehaaGreat
