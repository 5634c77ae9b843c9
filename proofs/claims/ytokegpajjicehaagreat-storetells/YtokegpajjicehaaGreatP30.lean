/-
  Texts Dl15, Dl16, Dl17, Fr10, Dl21, Rg1, Ly2 in one.
-/
import Derived.Deep.Strs
import Derived.Maps.AppendAt
import Derived.Laws.OwnMore
import GoSem.Claim
import Derived.Test.YtokegpajjicehaaGreatRows
import Derived.Shelf.SlSorted.Search
import Derived.Test.YtokegpajjicehaaGreatP29
namespace Go.Proofs.YtokegpajjicehaaGreat
open Go.RowKit
set_option linter.unusedVariables false

theorem apl_cons : ∀ {R : List Rc} {x : En} {M : List En}, (∀ r ∈ R, x.i < r.i) → apl (x :: M) R = consO x (apl M R)
  | [], x, M, _ => rfl
  | r :: R, x, M, h => by
    have h1 := h r (by simp)
    rw [apl_cc, if_pos h1]
theorem put_chk {x : En} (h : 0 ≤ x.i ∧ x.i ≤ 65535) : chk (putR x) = 0 := by
  unfold chk putR
  rw [if_neg (by simp), if_neg (by simp only; omega), if_neg (by simp)]
theorem rem_chk {x : En} (h : 0 ≤ x.i ∧ x.i ≤ 65535) : chk (remR x) = 0 := by
  have e : emptyB (remR x) = true := (emptyB_iff _).2 ⟨⟨rfl, rfl, rfl, rfl, rfl, rfl⟩, rfl⟩
  unfold chk
  rw [e]
  unfold remR
  rw [if_neg (by simp), if_neg (by simp only; omega), if_neg (by simp)]
theorem put_ok' {x : En} (h : x.ok) : (putR x).ok := ⟨by unfold putR S64; simp only; omega, h.i, h.p0, h.p1, h.p2, h.v0, h.v1, h.v2, h.a⟩
theorem rem_ok' {x : En} (h : x.ok) : (remR x).ok := by
  refine ⟨?_, h.i, ?_, ?_, ?_, ?_, ?_, ?_, ?_⟩ <;> (unfold remR; try unfold S64) <;> simp only <;> omega
theorem w64_S (x : Int) : S64 (wrap64 x) := by unfold S64 wrap64; omega
theorem dif_ok' {a b : En} (hb : b.ok) : (difR a b).ok := by
  unfold difR
  split
  · unfold noRec
    exact ⟨by unfold S64; simp only; omega, by unfold S64; simp only; omega, by unfold S64; simp only; omega, by unfold S64; simp only; omega, by unfold S64; simp only; omega, by unfold S64; simp only; omega, by unfold S64; simp only; omega, by unfold S64; simp only; omega, by simp only; omega⟩
  · split
    · unfold updR
      refine ⟨by unfold S64; simp only; omega, hb.i, w64_S _, w64_S _, w64_S _, w64_S _, w64_S _, w64_S _, ?_⟩
      simp only [IntKind.wrap_u16]; omega
    · exact ⟨by unfold S64; simp only; omega, hb.i, hb.p0, hb.p1, hb.p2, hb.v0, hb.v1, hb.v2, hb.a⟩
theorem new_put {x : En} (h : x.g = 0) : newE (putR x) = x := by
  unfold newE putR
  rw [← h]
theorem consO_some {α : Type} {x : α} {o : Option (List α)} {R : List α} (h : consO x o = some R) : ∃ S, o = some S ∧ R = x :: S := by
  cases o with
  | none => cases h
  | some S => cases h; exact ⟨S, rfl, rfl⟩
/-- What apl needs at a record of the entity that stands first. -/
theorem apl_same {x : En} {M : List En} {r : Rc} {R : List Rc} (h : x.i = r.i) : apl (x :: M) (r :: R) = if r.k = 0 then none else if r.k = 2 then apl M R else consO (appN x r) (apl M R) := by
  rw [apl_cc, if_neg (by omega), if_pos h]
theorem apl_new {x : En} {M : List En} {r : Rc} {R : List Rc} (h : r.i < x.i) (hk : r.k = 0) : apl (x :: M) (r :: R) = consO (newE r) (apl (x :: M) R) := by
  rw [apl_cc, if_neg (by omega), if_neg (by omega), if_pos hk]
theorem apl_none {r : Rc} {R : List Rc} (hk : r.k = 0) : apl [] (r :: R) = consO (newE r) (apl [] R) := by
  rw [apl_nc, if_pos hk]
structure Told (last : Int) (A B : List En) (R : List Rc) : Prop where
  made : apl A R = some B
  asc_ : asc last R
  len : R.length ≤ A.length + B.length
  ok : ∀ r ∈ R, r.ok
theorem mrg_toldN : ∀ (n : Nat) (A B : List En) (last : Int) (R : List Rc), A.length + B.length < n → -1 ≤ last → rise last A → rise last B → (∀ x ∈ A, x.ok) → (∀ x ∈ B, x.ok) → mrg A B = some R → Told last A B R
  | 0, _, _, _, _, h, _, _, _, _, _, _ => absurd h (Nat.not_lt_zero _)
  | n + 1, [], [], last, R, _, hl, _, _, _, _, h => by
    rw [mrg_nn] at h
    cases h
    exact ⟨apl_nil _, trivial, by simp, fun r hr => by cases hr⟩
  | n + 1, a :: al, [], last, R, hn, hl, ha, hb, oa, ob, h => by
    rw [mrg_cn] at h
    obtain ⟨S, h1, rfl⟩ := consO_some h
    have ba := rise_lt ha a (by simp)
    have ih := mrg_toldN n al [] a.i S (by simp at hn ⊢; omega) (by omega) ha.2.2 trivial (fun x hx => oa x (by simp [hx])) ob h1
    refine ⟨?_, ⟨ha.1, ha.2.1, rem_chk (by omega), ih.asc_⟩, by have := ih.len; simp at this ⊢; omega, fun r hr => ?_⟩
    · rw [apl_same (show a.i = (remR a).i from rfl), if_neg (by unfold remR; simp), if_pos (by unfold remR; rfl)]
      exact ih.made
    · rcases List.mem_cons.1 hr with rfl | hr
      · exact rem_ok' (oa a (by simp))
      · exact ih.ok r hr
  | n + 1, [], b :: bs, last, R, hn, hl, ha, hb, oa, ob, h => by
    rw [mrg_nc] at h
    by_cases hg : b.g = 0
    · rw [if_neg (by simp [hg])] at h
      obtain ⟨S, h1, rfl⟩ := consO_some h
      have bb := rise_lt hb b (by simp)
      have ih := mrg_toldN n [] bs b.i S (by simp at hn ⊢; omega) (by omega) trivial hb.2.2 oa (fun x hx => ob x (by simp [hx])) h1
      refine ⟨?_, ⟨hb.1, hb.2.1, put_chk (by omega), ih.asc_⟩, by have := ih.len; simp at this ⊢; omega, fun r hr => ?_⟩
      · rw [apl_none (by unfold putR; rfl), ih.made, new_put hg]; rfl
      · rcases List.mem_cons.1 hr with rfl | hr
        · exact put_ok' (ob b (by simp))
        · exact ih.ok r hr
    · rw [if_pos hg] at h; cases h
  | n + 1, a :: al, b :: bs, last, R, hn, hl, ha, hb, oa, ob, h => by
    have ba := rise_lt ha a (by simp)
    have bb := rise_lt hb b (by simp)
    simp only [List.length_cons] at hn
    rw [mrg_cc] at h
    by_cases h1 : a.i < b.i
    · rw [if_pos h1] at h
      obtain ⟨S, h2, rfl⟩ := consO_some h
      have ih := mrg_toldN n al (b :: bs) a.i S (by simp; omega) (by omega) ha.2.2 ⟨h1, hb.2⟩ (fun x hx => oa x (by simp [hx])) ob h2
      refine ⟨?_, ⟨ha.1, ha.2.1, rem_chk (by omega), ih.asc_⟩, by have := ih.len; simp at this ⊢; omega, fun r hr => ?_⟩
      · rw [apl_same (show a.i = (remR a).i from rfl), if_neg (by unfold remR; simp), if_pos (by unfold remR; rfl)]
        exact ih.made
      · rcases List.mem_cons.1 hr with rfl | hr
        · exact rem_ok' (oa a (by simp))
        · exact ih.ok r hr
    · rw [if_neg h1] at h
      by_cases h2 : b.i < a.i
      · rw [if_pos h2] at h
        by_cases hg : b.g = 0
        · rw [if_neg (by simp [hg])] at h
          obtain ⟨S, h3, rfl⟩ := consO_some h
          have ih := mrg_toldN n (a :: al) bs b.i S (by simp; omega) (by omega) ⟨h2, ha.2⟩ hb.2.2 oa (fun x hx => ob x (by simp [hx])) h3
          refine ⟨?_, ⟨hb.1, hb.2.1, put_chk (by omega), ih.asc_⟩, by have := ih.len; simp at this ⊢; omega, fun r hr => ?_⟩
          · rw [apl_new (by exact h2) (by unfold putR; rfl), ih.made, new_put hg]; rfl
          · rcases List.mem_cons.1 hr with rfl | hr
            · exact put_ok' (ob b (by simp))
            · exact ih.ok r hr
        · rw [if_pos hg] at h; cases h
      · rw [if_neg h2] at h
        have h3 : a.i = b.i := by omega
        by_cases hg : b.g ≠ a.g ∧ b.g ≠ (a.g + 1) % 256
        · rw [if_pos hg] at h; cases h
        · rw [if_neg hg] at h
          by_cases he : entB a b = true
          · rw [if_pos he] at h
            have hab : a = b := (entB_iff _ _).1 he
            have ih := mrg_toldN n al bs a.i R (by omega) (by omega) ha.2.2 (by rw [h3]; exact hb.2.2) (fun x hx => oa x (by simp [hx])) (fun x hx => ob x (by simp [hx])) h
            refine ⟨?_, asc_mono (by omega) ih.asc_, by have := ih.len; simp; omega, ih.ok⟩
            rw [apl_cons (fun r hr => (asc_lt ih.asc_ r hr).1), ih.made, hab]; rfl
          · rw [if_neg he] at h
            obtain ⟨S, h4, rfl⟩ := consO_some h
            have hef : entB a b = false := by simpa using he
            have ih := mrg_toldN n al bs a.i S (by omega) (by omega) ha.2.2 (by rw [h3]; exact hb.2.2) (fun x hx => oa x (by simp [hx])) (fun x hx => ob x (by simp [hx])) h4
            have oka := oa a (by simp)
            have okb := ob b (by simp)
            have di := dif_i hef
            have key : chk (difR a b) = 0 ∧ appN a (difR a b) = b ∧ (difR a b).k ≠ 0 ∧ (difR a b).k ≠ 2 := by
              by_cases hgg : a.g = b.g
              · obtain ⟨e1, e2, e3, e4⟩ := made_upd oka okb h3 (by omega) (by omega) hgg hef
                rw [e1]
                exact ⟨e2, e4, by unfold updR; simp, by unfold updR; simp⟩
              · obtain ⟨e0, e1, e2, e3, e4⟩ := made_jump (a := a) (b := b) h3 (by omega) (by omega) (by omega) oka.g
                exact ⟨e2, e4, by rw [e1]; simp, by rw [e1]; simp⟩
            obtain ⟨k1, k2, k3, k4⟩ := key
            refine ⟨?_, ⟨by rw [di]; exact hb.1, by rw [di]; exact hb.2.1, k1, by rw [di, ← h3]; exact ih.asc_⟩, by have := ih.len; simp at this ⊢; omega, fun r hr => ?_⟩
            · rw [apl_same (by rw [di]; exact h3), if_neg k3, if_neg k4, k2, ih.made]; rfl
            · rcases List.mem_cons.1 hr with rfl | hr
              · exact dif_ok' okb
              · exact ih.ok r hr
theorem mrg_told (A B : List En) (last : Int) (R : List Rc) (hl : -1 ≤ last) (ha : rise last A) (hb : rise last B) (oa : ∀ x ∈ A, x.ok) (ob : ∀ x ∈ B, x.ok) (h : mrg A B = some R) : Told last A B R := mrg_toldN _ A B last R (Nat.lt_succ_self _) hl ha hb oa ob h
theorem pre_ent {A : Nat → En} {n : Nat} (h : ∀ i, i < n → (A i).ok) : ∀ x ∈ preE A n, x.ok := by
  intro x hx
  unfold preE at hx
  obtain ⟨i, hi, rfl⟩ := List.mem_map.1 hx
  exact h i (by simpa using hi)
/-- A row of records by their places. -/
def atR (L : List Rc) (i : Nat) : Rc := L.getD i noRec
theorem pre_atR (L : List Rc) : pre (atR L) L.length = L := by
  refine List.ext_getElem (by rw [pre_len]) fun i h1 h2 => ?_
  unfold pre atR
  simp [List.getD, h2]
theorem atR_ok {L : List Rc} (h : ∀ r ∈ L, r.ok) : ∀ i, i < L.length → (atR L i).ok := fun i hi => by
  unfold atR
  rw [List.getD_eq_getElem?_getD, List.getElem?_eq_getElem hi]
  exact h _ (List.getElem_mem hi)
theorem OwnR.atR {w : World} {B : Nat} {v : Value} {L : List Rc} (h : OwnR w B v L) : RdR w v L.length (atR L) := h.rdR
def atE (L : List En) (i : Nat) : En := L.getD i noEnt
theorem pre_atE (L : List En) : preE (atE L) L.length = L := by
  refine List.ext_getElem (by rw [preE_len]) fun i h1 h2 => ?_
  unfold preE atE
  simp [List.getD, h2]
theorem OwnE.atE {w : World} {B : Nat} {v : Value} {L : List En} (h : OwnE w B v L) : RdE w v L.length (atE L) := h.rdR
theorem rdE_congr {w : World} {v : Value} {n : Nat} {A A' : Nat → En} (h : RdE w v n A) (e : ∀ i, i < n → A i = A' i) : RdE w v n A' := by
  obtain ⟨ao, cap, e0, h1, h2, h3⟩ := h
  refine ⟨ao, cap, e0, h1, h2, ?_⟩
  rcases h3 with h | ⟨b, o, hb, hc⟩
  · exact Or.inl h
  · exact Or.inr ⟨b, o, hb, fun i hi j x hx => hc i hi j x (by rw [e i hi]; exact hx)⟩
theorem preE_at (A : Nat → En) (n i : Nat) (h : i < n) : atE (preE A n) i = A i := by
  unfold preE atE
  simp [List.getD, h]
theorem rdE_pre {w : World} {B : Nat} {v : Value} {A : Nat → En} {n : Nat} (h : OwnE w B v (preE A n)) : RdE w v n A := by
  have := h.atE
  rw [preE_len] at this
  exact rdE_congr this (fun i hi => preE_at A n i hi)
theorem gm_of_asc {R : List Rc} : ∀ {a : Int}, -1 ≤ a → a ≤ 65535 → asc a R → firE a R = 0 := by
  induction R with
  | nil => intro a _ _ _; rfl
  | cons r R ih =>
    intro a h1 h2 h
    have hw : wrE r a = 0 := by unfold wrE; rw [if_pos h.2.2.1, if_neg (by omega), if_neg (by have := h.1; omega)]
    show (if wrE r a = 0 then firE r.i R else wrE r a) = 0
    rw [if_pos hw]
    exact ih (by have := h.1; omega) h.2.1 h.2.2.2
/-- The datagram that tells one by another one may be; it makes that again. -/
theorem dl_told {t m : Int} {L : List En} {t' m' : Int} {L' : List En} (h : dlE t m L t' m' L' = 0) (oa : ∀ x ∈ L, x.ok) (ob : ∀ x ∈ L', x.ok) :
    snE t m L = 0 ∧ snE t' m' L' = 0 ∧ t < t' ∧ dlG t m L t' m' L' = ⟨t', m', t⟩ ∧ mrg L L' = some (dlL t m L t' m' L') ∧ Told (-1) L L' (dlL t m L t' m' L') := by
  have h1 : snE t m L = 0 := by
    by_cases q : snE t m L = 0
    · exact q
    · unfold dlE at h; rw [if_neg q] at h; exact absurd h q
  have h2 : snE t' m' L' = 0 := by
    by_cases q : snE t' m' L' = 0
    · exact q
    · unfold dlE at h; rw [if_pos h1, if_neg q] at h; exact absurd h q
  have h3 : ¬ t' ≤ t := by
    intro q
    unfold dlE at h; rw [if_pos h1, if_pos h2, if_pos q] at h; exact absurd h (by decide)
  have h4 : mrg L L' = some (dlL t m L t' m' L') := by
    unfold dlL
    rw [if_pos h]
    unfold dlE at h; rw [if_pos h1, if_pos h2, if_neg h3] at h
    cases q : mrg L L' with
    | none => rw [q] at h; exact absurd h (by decide)
    | some R => rfl
  refine ⟨h1, h2, by omega, by unfold dlG; rw [if_pos h], h4, mrg_told L L' (-1) _ (by omega) (sn_ok h1).2.2.2.2 (sn_ok h2).2.2.2.2 oa ob h4⟩
theorem told_gm {t m : Int} {L : List En} {t' m' : Int} {L' : List En} {R : List Rc} (h1 : snE t m L = 0) (h2 : snE t' m' L' = 0) (h3 : t < t') (h : Told (-1) L L' R) : gmE ⟨t', m', t⟩ (atR R) R.length = 0 := by
  obtain ⟨a0, a1, a2, a3, a4⟩ := sn_ok h1
  obtain ⟨b0, b1, b2, b3, b4⟩ := sn_ok h2
  have hl := h.len
  have hh : hedE ⟨t', m', t⟩ R.length = 0 := by
    unfold hedE
    rw [if_neg, if_neg (by simp only; omega), if_neg (by omega)]
    simp only [b2]
    rintro (q | q | q | q)
    · omega
    · omega
    · cases q
    · omega
  unfold gmE
  rw [if_pos hh, pre_atR]
  exact gm_of_asc (by omega) (by omega) h.asc_
theorem told_back {t m : Int} {L : List En} {t' m' : Int} {L' : List En} {R : List Rc} (h1 : snE t m L = 0) (h2 : snE t' m' L' = 0) (h3 : t < t') (h : Told (-1) L L' R) :
    aplE t m L ⟨t', m', t⟩ (atR R) R.length = 0 ∧ apT t m L ⟨t', m', t⟩ (atR R) R.length = t' ∧ apM t m L ⟨t', m', t⟩ (atR R) R.length = m' ∧ aplL t m L ⟨t', m', t⟩ (atR R) R.length = L' := by
  have hg := told_gm h1 h2 h3 h
  obtain ⟨a0, a1, a2, a3, a4⟩ := sn_ok h1
  obtain ⟨b0, b1, b2, b3, b4⟩ := sn_ok h2
  have hb : (⟨t', m', t⟩ : Gm).b ≠ -1 := by simp only; omega
  have hw : wasL (⟨t', m', t⟩ : Gm).b L = L := by unfold wasL; rw [if_neg hb]
  have hr : rise (-1) (wasL (⟨t', m', t⟩ : Gm).b L) := by rw [hw]; exact a4
  have e := (apl_end hg (fun q => q.2 h1) (fun q => q.2 rfl) hr (gm_asc hg)).2.2 L' (by
    rw [← apl_all _ _ _ hr (gm_asc hg), hw, pre_atR]; exact h.made) (by omega)
  exact e
end Go.Proofs.YtokegpajjicehaaGreat

namespace Go.Proofs.YtokegpajjicehaaGreat
open Go.RowKit
set_option linter.unusedVariables false
set_option maxRecDepth 20000

def e7 : En := ⟨7, 0, 0, 0, 0, 0, 0, 5, 0⟩
end Go.Proofs.YtokegpajjicehaaGreat

namespace Go.Proofs.YtokegpajjicehaaGreat
open Go.RowKit
set_option linter.unusedVariables false

/-- Told by none. -/
theorem ful_told {t m : Int} {L : List En} (h : fulE t m L = 0) (ob : ∀ x ∈ L, x.ok) : snE t m L = 0 ∧ fulG t m L = ⟨t, m, -1⟩ ∧ Told (-1) [] L (fulL t m L) := by
  have h1 : snE t m L = 0 := by
    by_cases q : snE t m L = 0
    · exact q
    · unfold fulE at h; rw [if_neg q] at h; exact absurd h q
  refine ⟨h1, by unfold fulG; rw [if_pos h], ?_⟩
  have hm : mrg [] L = some (fulL t m L) := by
    rw [mrg_nil]
    unfold fulL
    rw [if_pos h]
    unfold fulE at h
    rw [if_pos h1] at h
    split at h
    · exact absurd h (by decide)
    · rename_i q; rw [if_neg q]
  exact mrg_told [] L (-1) _ (by omega) trivial (sn_ok h1).2.2.2.2 (fun x hx => by cases hx) ob hm
end Go.Proofs.YtokegpajjicehaaGreat

namespace Go.Proofs.YtokegpajjicehaaGreat
open Go.ChangeShapes Go.WideShapes Go.ChangeAt Go.RowKit Go.Joins
set_option linter.unusedVariables false
variable {H : Type} {enc : TypeId × Value → H}

theorem cells_snap : Tryz.prog.cellsOf 24 = 3 := by kernel_rfl
theorem cells_ents : Tryz.prog.cellsOf 22 = 1 := by kernel_rfl
set_option maxRecDepth 20000 in
theorem trod_ents {W : World} {fuel : Nat} {cs : List Value} {x : DataW H × List MemPlace} (hf : DataW.trod enc Tryz.prog W 0 (fun _ => true) true fuel 22 cs = some x) :
    ∃ (v : Value) (n : Nat) (A : Nat → En), cs = [v] ∧ (∀ i, i < n → (A i).ok) ∧ RdE W v n A := by
  rcases Go.Deep.open_slice Tryz.underlying22 hf with ⟨hcs, hx⟩ | ⟨a, len2, cap, m, n, D, Pl, hcs, _, hl, hm, hmm, hx, hel⟩
  · exact ⟨_, 0, fun _ => noEnt, hcs, fun i hi => by omega, none, 0, rfl, Nat.le_refl _, by omega, Or.inl rfl⟩
  · simp only [if_true] at hmm
    subst hmm
    rw [cells_ent] at hel
    have each : ∀ i, i < m → ∃ r : En, (∀ j x, (entC r)[j]? = some x → W.cell? (a.add (i * 9 + j)) = some x) ∧ r.ok := by
      intro i hi
      obtain ⟨cs', h1, h2⟩ := hel i hi
      obtain ⟨_, hlen, hcell⟩ := World.cells?_some h1
      obtain ⟨r, rfl, ok⟩ := trod_ent h2
      refine ⟨r, fun j x hj => ?_, ok⟩
      have hj' : j < 9 := (List.getElem?_eq_some_iff.1 hj).1
      have c := hcell j (by exact hj')
      rw [Go.Deep.add_add] at c
      rw [c]; exact hj
    haveI : Inhabited En := ⟨noEnt⟩
    obtain ⟨A, hA⟩ := Go.Deep.choose_lt each
    refine ⟨_, len2, A, hcs, fun i hi => (hA i (by omega)).2, some a, m, rfl, hl, hm, ?_⟩
    by_cases h0 : len2 = 0
    · exact Or.inl h0
    · right
      obtain ⟨ab, ao, spot⟩ := a
      have hspot : spot = none := by simpa [Addr.add] using World.cell?_spot ((hA 0 (by omega)).1 0 _ rfl)
      subst hspot
      refine ⟨ab, ao, rfl, fun i hi j x hj => ?_⟩
      have := (hA i (by omega)).1 j x hj
      simp only [Addr.add_lit] at this
      rw [Nat.add_assoc]; exact this
set_option maxRecDepth 20000 in
theorem trod_snap {w : World} {fuel : Nat} {cs : List Value} {x : DataW H × List MemPlace} (h : DataW.trod enc Tryz.prog w 0 (fun _ => true) true fuel 24 cs = some x) :
    ∃ (t m : Int) (u : Value) (n : Nat) (A : Nat → En), cs = [.int .i64 t, .int .i64 m, u] ∧ S64 t ∧ S64 m ∧ (∀ i, i < n → (A i).ok) ∧ RdE w u n A := by
  obtain ⟨y0, y1, y2, n, _, hl, g0, g1, g2⟩ := Go.Deep.trod_struct3 Tryz.underlying24 h
  rw [cells_snap] at hl
  match cs, hl with
  | [c0, c1, c2], _ =>
    simp [cells_i64, cells_ents] at g0 g1 g2
    obtain ⟨z0, e0, _, w0⟩ := DataW.trod_int Tryz.underlying2 g0
    obtain ⟨z1, e1, _, w1⟩ := DataW.trod_int Tryz.underlying2 g1
    obtain ⟨u, k, A, e2, hA, hr⟩ := trod_ents g2
    simp at e0 e1 e2
    subst e0 e1 e2
    exact ⟨z0, z1, _, k, A, rfl, wf_i64 w0, wf_i64 w1, hA, hr⟩
end Go.Proofs.YtokegpajjicehaaGreat

namespace Go.Proofs.YtokegpajjicehaaGreat
open Go.RowKit
set_option linter.unusedVariables false
set_option maxRecDepth 20000
/-- A row without its entity number i. -/
def cutL (L : List En) (i : Nat) : List En := L.take i ++ L.drop (i + 1)
/-! append of a slice of entities -/
theorem ents_app (L M : List En) : ents (L ++ M) = ents L ++ ents M := by unfold ents; simp
theorem ents_one (L : List En) : ∀ u ∈ ents L, u.oneCell' = true := by
  intro u hu
  unfold ents at hu
  rw [List.mem_flatMap] at hu
  obtain ⟨r, _, hu⟩ := hu
  exact entC_one r u hu
theorem appE_op {w : World} {o : Oper} {a : Act} {K : Act → World → Prop} {Q : Exit → Act → World → Prop} (s x : Operand)
    (ho : o.op = .call { callee := .builtin .append, args := #[s, x], argTypes := #[22, 22] })
    (B : Nat) (v : Value) (L : List En) (hs : a.eval s = v) (hown : OwnE w B v L) (ad : Addr) (m c : Nat) (N : List En) (hx : a.eval x = .slice (some ad) m c) (hm : N.length = m)
    (hr : ∀ j u, (ents N)[j]? = some u → w.cell? (ad.add j) = some u) (hlen : L.length + N.length ≤ 1000000) (hB : B ≤ w.heap.size)
    (h : ∀ v' w', OwnE w' B v' (L ++ N) → Grow B v w v' w' → K (a.put o.dst v') w') : o.wp Tryz.prog a w K Q := by
  obtain ⟨i0, hi, hz0, hz1, hz2⟩ := info_parts infoE
  obtain ⟨v', w', hrun, h2, h3, _, h5⟩ := run_append_own_at (P := Tryz.prog) w B 22 o.type 40 i0 (entV noEnt) 9 64 Tryz.underlying22 hi hz0 hz1 hz2 rfl (by decide) v L.length (ents L) hown ad m c (ents N) (by rw [ents_len, hm]) hr (ents_one N) (by unfold maxLen; omega) (by omega) hB
  unfold Oper.wp
  simp [execOp, ho, resolve, invoke, builtin, hs, hx, hrun, Result.andThen]
  refine h v' w' ?_ ⟨(Below.refl B w).grown h3 hB (fun k hk => (hown.lt k hk).1), h3, h5⟩
  unfold OwnE
  rw [List.length_append, hm, ents_app]
  exact h2
theorem ents_rd {w : World} {b o n : Nat} {A : Nat → En} (h : ∀ i, i < n → ∀ j x, (entC (A i))[j]? = some x → w.cell? ⟨b, o + i * 9 + j, none⟩ = some x) (j : Nat) (u : Value) (hu : (ents (preE A n))[j]? = some u) : w.cell? ⟨b, o + j, none⟩ = some u := by
  have hj : j < n * 9 := by have := (List.getElem?_eq_some_iff.1 hu).1; rwa [ents_len, preE_len] at this
  have hq : j / 9 < n := by omega
  have hl : (entC (A (j / 9))).length = 9 := rfl
  obtain ⟨x, hx⟩ : ∃ x, (entC (A (j / 9)))[j % 9]? = some x := ⟨_, List.getElem?_eq_getElem (by rw [hl]; omega)⟩
  have e := preE_at A n (j / 9) hq
  have e2 := ents_at (preE A n) (j / 9) (j % 9) x (by rw [preE_len]; exact hq) (by
    have e' : (preE A n).getD (j / 9) noEnt = A (j / 9) := e
    rw [e']; exact hx)
  rw [show j / 9 * 9 + j % 9 = j by omega, hu] at e2
  injection e2 with e2
  subst e2
  have := h (j / 9) hq (j % 9) u hx
  rw [show o + j / 9 * 9 + j % 9 = o + j by omega] at this
  exact this
/-- A new row without entities. -/
theorem ownE_new (w : World) (B : Nat) (hB : B ≤ w.heap.size) : OwnE (w.alloc (.cells #[] 40)) B (.slice (some ⟨w.heap.size, 0, none⟩) 0 0) [] :=
  ⟨rfl, Or.inr ⟨w.heap.size, 0, #[], rfl, hB, heap_alloc_new w _, Nat.le_refl _, by unfold maxLen; omega, rfl, rfl⟩⟩
theorem ownE_three {w : World} {B b : Nat} {v x0 x1 x2 : Value} {L : List En} (h : OwnE w B v L) (hne : some b ≠ v.ownBlock) : OwnE (((w.setCell ⟨b, 0, none⟩ x0).setCell ⟨b, 1, none⟩ x1).setCell ⟨b, 2, none⟩ x2) B v L := by
  have g : w.grownBy (((w.setCell ⟨b, 0, none⟩ x0).setCell ⟨b, 1, none⟩ x1).setCell ⟨b, 2, none⟩ x2) (some b) :=
    ⟨rfl, rfl, rfl, by simp, fun k _ hk => by
      have hb : k ≠ b := fun e => hk (by rw [e])
      rw [heap_setCell_other _ ⟨b, 2, none⟩ k _ hb, heap_setCell_other _ ⟨b, 1, none⟩ k _ hb, heap_setCell_other _ ⟨b, 0, none⟩ k _ hb]⟩
  refine World.ownsRow.kept h g ?_
  cases hq : v.ownBlock with
  | none => exact Or.inl rfl
  | some q => exact Or.inr (fun e => hne (by rw [hq]; exact e.symm))
end Go.Proofs.YtokegpajjicehaaGreat

namespace Go.Proofs.YtokegpajjicehaaGreat
open Go
set_option linter.unusedVariables false

/-- A number, and the thing at it. -/
abbrev Pr := Int × Value
def noPr : Pr := (0, .int .i64 0)
/-- The numbers rise. -/
def Rise (L : List Pr) : Prop := L.Pairwise fun p q => p.1 < q.1
/-- How many numbers are no greater. -/
def untl (L : List Pr) (k : Int) : Nat := L.countP fun p => decide (p.1 ≤ k)
def keyAt (L : List Pr) (i : Nat) : Int := (L.getD i noPr).1
def thing (L : List Pr) (i : Nat) : Value := (L.getD i noPr).2
theorem untl_le (L : List Pr) (k : Int) : untl L k ≤ L.length := List.countP_le_length
theorem untl_cons (p : Pr) (L : List Pr) (k : Int) : untl (p :: L) k = untl L k + (if p.1 ≤ k then 1 else 0) := by
  unfold untl; rw [List.countP_cons]; simp
theorem keyAt_zero (p : Pr) (L : List Pr) : keyAt (p :: L) 0 = p.1 := rfl
theorem keyAt_succ (p : Pr) (L : List Pr) (i : Nat) : keyAt (p :: L) (i + 1) = keyAt L i := rfl
theorem keyAt_mem {L : List Pr} {i : Nat} (h : i < L.length) : ∃ p ∈ L, p.1 = keyAt L i ∧ p.2 = thing L i := by
  refine ⟨L[i], List.getElem_mem h, ?_, ?_⟩ <;> simp [keyAt, thing, List.getD, h]
theorem mem_keyAt {L : List Pr} {p : Pr} (h : p ∈ L) : ∃ i, i < L.length ∧ keyAt L i = p.1 ∧ thing L i = p.2 := by
  obtain ⟨i, hi, rfl⟩ := List.getElem_of_mem h
  exact ⟨i, hi, by simp [keyAt, List.getD, hi], by simp [thing, List.getD, hi]⟩
theorem rise_cons {p : Pr} {L : List Pr} (h : Rise (p :: L)) : (∀ q ∈ L, p.1 < q.1) ∧ Rise L := by
  unfold Rise at h ⊢; rw [List.pairwise_cons] at h; exact h
theorem untl_none {L : List Pr} {k : Int} (h : ∀ q ∈ L, k < q.1) : untl L k = 0 := by
  unfold untl; rw [List.countP_eq_zero]; intro q hq; have := h q hq; simp; omega
/-- Ahead of the place that is sought numbers are no greater, from it on they are. -/
theorem untl_iff : ∀ {L : List Pr} (_ : Rise L) (k : Int) (i : Nat), i < L.length → (i < untl L k ↔ keyAt L i ≤ k)
  | [], _, _, _, h => by simp at h
  | p :: L, hr, k, i, h => by
    obtain ⟨h1, h2⟩ := rise_cons hr
    rw [untl_cons]
    rcases i with _ | i
    · rw [keyAt_zero]
      by_cases hp : p.1 ≤ k
      · simp [hp]
      · rw [untl_none (fun q hq => by have := h1 q hq; omega)]; simp [hp]
    · rw [keyAt_succ]
      have hi : i < L.length := by simpa using h
      have ih := untl_iff h2 k i hi
      obtain ⟨q, hq, hk, _⟩ := keyAt_mem hi
      by_cases hp : p.1 ≤ k
      · simp only [hp, if_true]; rw [← ih]; omega
      · have := h1 q hq
        simp only [hp, if_false]; rw [← ih]; rw [untl_none (fun q hq => by have := h1 q hq; omega)]; omega
theorem keyAt_lt : ∀ {L : List Pr} (_ : Rise L) {i j : Nat}, i < j → j < L.length → keyAt L i < keyAt L j
  | [], _, _, _, _, h => by simp at h
  | p :: L, hr, i, j + 1, hij, h => by
    obtain ⟨h1, h2⟩ := rise_cons hr
    have hj : j < L.length := by simpa using h
    rcases i with _ | i
    · rw [keyAt_zero, keyAt_succ]
      obtain ⟨q, hq, hk, _⟩ := keyAt_mem hj
      rw [← hk]; exact h1 q hq
    · rw [keyAt_succ, keyAt_succ]
      exact keyAt_lt h2 (by omega) hj
  | p :: L, hr, i, 0, hij, h => by omega
/-- A number is there just if it stands ahead of the place that is sought. -/
theorem there_iff {L : List Pr} (hr : Rise L) (k : Int) : (∃ p ∈ L, p.1 = k) ↔ (0 < untl L k ∧ keyAt L (untl L k - 1) = k) := by
  constructor
  · rintro ⟨p, hp, rfl⟩
    obtain ⟨i, hi, hk, _⟩ := mem_keyAt hp
    have h1 := (untl_iff hr p.1 i hi).2 (by omega)
    refine ⟨by omega, ?_⟩
    have hu := untl_le L p.1
    have h2 := (untl_iff hr p.1 (untl L p.1 - 1) (by omega)).1 (by omega)
    rcases Nat.lt_or_ge i (untl L p.1 - 1) with h | h
    · have := keyAt_lt hr h (by omega); omega
    · have e : i = untl L p.1 - 1 := by omega
      rw [← e]; exact hk
  · rintro ⟨h1, h2⟩
    have hu := untl_le L k
    obtain ⟨p, hp, hk, _⟩ := keyAt_mem (L := L) (i := untl L k - 1) (by omega)
    exact ⟨p, hp, hk.trans h2⟩

/-- A ring: how many numbers there may be; they, with their things; the greatest that went; whether one did. -/
structure Rs where
  M : Nat
  L : List Pr
  F : Int
  G : Bool
/-- The number is there. -/
def isAt (L : List Pr) (k : Int) : Bool := decide (0 < untl L k) && decide (keyAt L (untl L k - 1) = k)
/-- The thing at a number, or that of none. -/
def getX (L : List Pr) (k : Int) (z : Value) : Value := if isAt L k then thing L (untl L k - 1) else z
/-- The number laid, with its thing. -/
def laid (L : List Pr) (k : Int) (x : Value) : List Pr := L.take (untl L k) ++ (k, x) :: L.drop (untl L k)
theorem laid_len (L : List Pr) (k : Int) (x : Value) : (laid L k x).length = L.length + 1 := by
  have := untl_le L k
  unfold laid; simp; omega
/-- What Lay answers: the number that goes, whether one does, the error. -/
def layA (s : Rs) (k : Int) : Int × Bool × Int :=
  if isAt s.L k then (0, false, 12)
  else if untl s.L k = 0 ∧ s.L.length = s.M then (0, false, 13)
  else if s.L.length < s.M then (0, false, 0)
  else (keyAt (laid s.L k noPr.2) 0, true, 0)
/-- How the ring stands behind it. -/
def layS (s : Rs) (k : Int) (x : Value) : Rs :=
  if isAt s.L k then s
  else if untl s.L k = 0 ∧ s.L.length = s.M then s
  else if s.L.length < s.M then { s with L := laid s.L k x }
  else { s with L := (laid s.L k x).tail, F := keyAt (laid s.L k x) 0, G := true }
/-- How rings stand. -/
structure Rs.ok (s : Rs) : Prop where
  most : 1 ≤ s.M ∧ s.M ≤ 64
  len : s.L.length ≤ s.M
  rise : Rise s.L
  gone : s.G = true → s.L.length = s.M ∧ ∀ p ∈ s.L, s.F < p.1
  none_ : s.G = false → s.F = 0
  wf : (∀ p ∈ s.L, -9223372036854775808 ≤ p.1 ∧ p.1 ≤ 9223372036854775807) ∧ -9223372036854775808 ≤ s.F ∧ s.F ≤ 9223372036854775807
def emptyR (M : Nat) : Rs := ⟨M, [], 0, false⟩
theorem empty_ok {M : Nat} (h : 1 ≤ M ∧ M ≤ 64) : (emptyR M).ok :=
  ⟨h, by simp [emptyR], List.Pairwise.nil, fun h => by simp [emptyR] at h, fun _ => rfl, fun p hp => by simp [emptyR] at hp, by simp [emptyR], by simp [emptyR]⟩
/-- The numbers that are there when one is laid: it, and the elder ones. -/
theorem mem_laid {L : List Pr} {k : Int} {x : Value} {p : Pr} : p ∈ laid L k x ↔ p = (k, x) ∨ p ∈ L := by
  unfold laid
  rw [List.mem_append, List.mem_cons]
  constructor
  · rintro (h | h | h)
    · exact Or.inr (List.mem_of_mem_take h)
    · exact Or.inl h
    · exact Or.inr (List.mem_of_mem_drop h)
  · rintro (h | h)
    · exact Or.inr (Or.inl h)
    · have e := List.take_append_drop (untl L k) L
      rw [← e, List.mem_append] at h
      rcases h with h | h
      · exact Or.inl h
      · exact Or.inr (Or.inr h)
theorem rise_take {L : List Pr} (h : Rise L) (n : Nat) : Rise (L.take n) := h.sublist (List.take_sublist n L)
theorem rise_drop {L : List Pr} (h : Rise L) (n : Nat) : Rise (L.drop n) := h.sublist (List.drop_sublist n L)
theorem take_le {L : List Pr} (hr : Rise L) (k : Int) : ∀ p ∈ L.take (untl L k), p.1 ≤ k := by
  intro p hp
  obtain ⟨i, hi, rfl⟩ := List.getElem_of_mem hp
  rw [List.length_take] at hi
  have := (untl_iff hr k i (by omega)).1 (by omega)
  rw [List.getElem_take]
  simpa [keyAt, List.getD, show i < L.length by omega] using this
theorem drop_gt {L : List Pr} (hr : Rise L) (k : Int) : ∀ p ∈ L.drop (untl L k), k < p.1 := by
  intro p hp
  obtain ⟨i, hi, rfl⟩ := List.getElem_of_mem hp
  rw [List.length_drop] at hi
  have := mt (untl_iff hr k (untl L k + i) (by omega)).2 (by omega)
  rw [List.getElem_drop]
  have h2 : ¬ (L[untl L k + i]'(by omega)).1 ≤ k := by simpa [keyAt, List.getD, show untl L k + i < L.length by omega] using this
  omega
theorem isAt_iff {L : List Pr} (hr : Rise L) (k : Int) : isAt L k = true ↔ ∃ p ∈ L, p.1 = k := by
  rw [there_iff hr]; simp [isAt]
theorem take_lt {L : List Pr} (hr : Rise L) {k : Int} (h : isAt L k = false) : ∀ p ∈ L.take (untl L k), p.1 < k := by
  intro p hp
  have h1 := take_le hr k p hp
  have h2 : p.1 ≠ k := fun e => by
    have := (isAt_iff hr k).2 ⟨p, List.mem_of_mem_take hp, e⟩
    rw [h] at this; cases this
  omega
theorem rise_laid {L : List Pr} (hr : Rise L) {k : Int} (h : isAt L k = false) (x : Value) : Rise (laid L k x) := by
  unfold laid Rise
  rw [List.pairwise_append, List.pairwise_cons]
  refine ⟨rise_take hr _, ⟨fun q hq => drop_gt hr k q hq, rise_drop hr _⟩, fun p hp q hq => ?_⟩
  have h1 := take_lt hr h p hp
  rcases List.mem_cons.1 hq with rfl | hq
  · exact h1
  · have := drop_gt hr k q hq; omega
theorem keyAt_laid (L : List Pr) (k : Int) (x y : Value) (i : Nat) : keyAt (laid L k x) i = keyAt (laid L k y) i := by
  unfold keyAt laid
  have hl : (L.take (untl L k)).length = untl L k := by have := untl_le L k; simp; omega
  rcases Nat.lt_or_ge i (untl L k) with h | h
  · simp [List.getD, List.getElem?_append_left (show i < (L.take (untl L k)).length by omega)]
  · rw [List.getD, List.getD, List.getElem?_append_right (by omega), List.getElem?_append_right (by omega), hl]
    rcases h' : i - untl L k with _ | j
    · simp
    · simp
theorem tail_mem {L : List Pr} (hr : Rise L) : ∀ p ∈ L.tail, keyAt L 0 < p.1 ∧ p ∈ L := by
  intro p hp
  cases L with
  | nil => simp at hp
  | cons q L => exact ⟨(rise_cons hr).1 p hp, List.mem_cons_of_mem _ hp⟩
/-- Behind Lay a ring stands as rings do. -/
theorem lay_ok {s : Rs} (h : s.ok) {k : Int} (hk : -9223372036854775808 ≤ k ∧ k ≤ 9223372036854775807) (x : Value) : (layS s k x).ok := by
  unfold layS
  by_cases h1 : isAt s.L k = true
  · rw [if_pos h1]; exact h
  rw [if_neg h1]
  have h1' : isAt s.L k = false := by simpa using h1
  by_cases h2 : untl s.L k = 0 ∧ s.L.length = s.M
  · rw [if_pos h2]; exact h
  rw [if_neg h2]
  have hl := laid_len s.L k x
  have hr := rise_laid h.rise h1' x
  have hw : ∀ p ∈ laid s.L k x, -9223372036854775808 ≤ p.1 ∧ p.1 ≤ 9223372036854775807 := fun p hp => by
    rcases mem_laid.1 hp with rfl | hp
    · exact hk
    · exact h.wf.1 p hp
  by_cases h3 : s.L.length < s.M
  · rw [if_pos h3]
    refine ⟨h.most, by show (laid s.L k x).length ≤ s.M; omega, hr, fun hg => ?_, h.none_, hw, h.wf.2⟩
    have := (h.gone hg).1; omega
  · rw [if_neg h3]
    have hlen := h.len
    have hp0 : 0 < (laid s.L k x).length := by omega
    obtain ⟨q, hq, hqk, _⟩ := keyAt_mem hp0
    refine ⟨h.most, by show (laid s.L k x).tail.length ≤ s.M; rw [List.length_tail]; omega, hr.sublist (List.tail_sublist _), fun _ => ⟨by show (laid s.L k x).tail.length = s.M; rw [List.length_tail]; omega, fun p hp => (tail_mem hr p hp).1⟩, fun hg => (by cases hg), fun p hp => hw p (tail_mem hr p hp).2, ?_⟩
    show _ ∧ _
    rw [← hqk]; exact hw q hq
/-- What is found: how many numbers are less. -/
def lessN (L : List Pr) (k : Int) : Nat := L.countP fun p => decide (p.1 < k)
end Go.Proofs.YtokegpajjicehaaGreat

namespace Go.Proofs.YtokegpajjicehaaGreat
open Go.Shelf
def lay_search_ren : Go.Shelf.Ren := ⟨fun | 16 => 110 | n => n, fun | 3 => 3 | 35 => 145 | 4 => 4 | 38 => 89 | n => n, fun | n => n⟩
theorem lay_search : Go.Proofs.SlLaysO.n16 Tryz.prog lay_search_ren := {
  mixed := by kernel_rfl
  f16 := Tryz.func110.trans (congrArg some (by kernel_rfl))
  t3 := Tryz.underlying3
  a3 := Tryz.isAgg3
  z3 := Tryz.sizeOf3
  v3 := Tryz.zeroValue3
  t4 := Tryz.underlying4
  a4 := Tryz.isAgg4
  z4 := Tryz.sizeOf4
  v4 := Tryz.zeroValue4
  t35 := Tryz.underlying145
  a35 := Tryz.isAgg145
  z35 := Tryz.sizeOf145
  v35 := Tryz.zeroValue145
  t38 := Tryz.underlying89
  a38 := Tryz.isAgg89
  z38 := Tryz.sizeOf89
  v38 := Tryz.zeroValue89 }
end Go.Proofs.YtokegpajjicehaaGreat
