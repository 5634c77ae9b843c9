/-
  Layer 8 (record): what is written is read; fewer of its bytes are too short; what was read is written as those (no function of the program in sight).
-/
import Derived.Test.YtjjaodlgnoiheaaRec14
namespace Go.Proofs.Ytjjaodlgnoiheaa
open Go.RowKit
set_option linter.unusedVariables false

/-! a reader that has not failed, ahead of a number's bytes -/
theorem rd_uint {x m : Int} (h0 : 0 ≤ x) (h1 : x ≤ m) (hm : m ≤ 18446744073709551615) (r : List Int) (n : Int) :
    uintA m ⟨put x ++ r, n, 0⟩ = x ∧ uintS m ⟨put x ++ r, n, 0⟩ = ⟨r, n + (put x).length, 0⟩ := by
  have g := got_put h0 (by omega) r
  have hne : put x ++ r ≠ [] := by simp [put_ne]
  have e : uintE m (put x ++ r) = 0 := by
    unfold uintE
    rw [if_neg hne, g]
    simp only [if_true]
    rw [if_neg (by omega)]
  unfold uintA uintS
  simp only [if_true, e, g]
  simp
theorem rd_int {x : Int} (hx : S64 x) (r : List Int) (n : Int) : intA ⟨put (zig x) ++ r, n, 0⟩ = x ∧ intS ⟨put (zig x) ++ r, n, 0⟩ = ⟨r, n + (put (zig x)).length, 0⟩ := by
  have b := zig_bd hx
  have h := rd_uint (m := top64) b.1 b.2 (by unfold top64; omega) r n
  unfold intA intS
  rw [h.1, h.2, zag_zig]
  exact ⟨rfl, rfl⟩
theorem rd_byte {b : Int} (r : List Int) (n : Int) : byteA ⟨b :: r, n, 0⟩ = b ∧ byteS ⟨b :: r, n, 0⟩ = ⟨r, n + 1, 0⟩ := by
  unfold byteA byteS
  simp
/-! an Update -/
theorem bit_mask : ∀ (l : List Int) (k : Nat), k < l.length → bitB (mask l) k = decide (l.getD k 0 ≠ 0)
  | x :: r, 0, _ => by
    unfold bitB
    simp only [mask]
    by_cases h : x = 0
    · simp [h]
    · simp [h]
  | x :: r, k + 1, hk => by
    have h1 := bit_mask r k (by simpa using hk)
    have e : mask (x :: r) / 2 = mask r := by
      show ((if x = 0 then (0 : Int) else 1) + 2 * mask r) / 2 = mask r
      split <;> omega
    have e2 : mask (x :: r) / 2 ^ (k + 1) = mask r / 2 ^ k := by
      rw [Int.pow_succ, Int.mul_comm (2 ^ k) 2, ← Int.ediv_ediv_of_nonneg (by omega), e]
    rw [List.getD_cons_succ, ← h1]
    unfold bitB
    rw [e2]
theorem bit_mask6 (l : List Int) (h : l.length = 6) (a : Int) (k : Nat) (hk : k < 6) : bitB (mask l + if a = 0 then 0 else 64) k = decide (l.getD k 0 ≠ 0) := by
  rw [← bit_mask l k (by omega)]
  unfold bitB
  split
  · simp
  · have e : (mask l + 64) / 2 ^ k % 2 = mask l / 2 ^ k % 2 := by
      rcases (show k = 0 ∨ k = 1 ∨ k = 2 ∨ k = 3 ∨ k = 4 ∨ k = 5 by omega) with rfl | rfl | rfl | rfl | rfl | rfl <;> simp <;> omega
    rw [e]
theorem bit_six (l : List Int) (h : l.length = 6) (a : Int) : bitB (mask l + if a = 0 then 0 else 64) 6 = decide (a ≠ 0) := by
  have hb := mask_bd l
  rw [h] at hb
  unfold bitB
  split
  · rename_i h'; simp [h']; omega
  · rename_i h'; simp [h']; omega
/-- The numbers of an Update are read one by one. -/
theorem dif_read (l : List Int) (h6 : l.length = 6) (a : Int) (hl : ∀ x ∈ l, S64 x) (rest : List Int) (n : Int) : ∀ k, k ≤ 6 →
    difS (mask l + if a = 0 then 0 else 64) ⟨zn l ++ rest, n, 0⟩ k = ⟨zn (l.drop k) ++ rest, n + (zn (l.take k)).length, 0⟩
  | 0, _ => by simp [difS, zn]
  | k + 1, hk => by
    show stepS _ (difS _ _ k) = _
    rw [dif_read l h6 a hl rest n k (by omega), bit_mask6 l h6 a k (by omega)]
    have hd : zn (l.drop k) = (if l.getD k 0 = 0 then [] else put (zig (l.getD k 0))) ++ zn (l.drop (k + 1)) := by
      unfold zn; rw [List.drop_eq_getElem_cons (by omega), List.flatMap_cons]; simp [List.getD, show k < l.length by omega]
    have ht := zn_snoc l k (by omega)
    rw [hd, ht]
    have hx : S64 (l.getD k 0) := hl _ (getD_mem (by omega))
    obtain ⟨x, e⟩ : ∃ x, l.getD k 0 = x := ⟨_, rfl⟩
    rw [e] at hx ⊢
    unfold stepS
    by_cases hz : x = 0
    · simp [hz]
    · rw [if_pos (by simp [hz]), if_neg hz, List.append_assoc, (rd_int hx _ _).1, (rd_int hx _ _).2]
      unfold othS
      rw [if_neg hz, List.length_append]
      congr 1
      omega
theorem difA_read (l : List Int) (h6 : l.length = 6) (a : Int) (hl : ∀ x ∈ l, S64 x) (rest : List Int) (n : Int) (k : Nat) (hk : k < 6) :
    difA (mask l + if a = 0 then 0 else 64) ⟨zn l ++ rest, n, 0⟩ k = l.getD k 0 := by
  unfold difA
  rw [dif_read l h6 a hl rest n k (by omega), bit_mask6 l h6 a k hk]
  have hd : zn (l.drop k) = (if l.getD k 0 = 0 then [] else put (zig (l.getD k 0))) ++ zn (l.drop (k + 1)) := by
    unfold zn; rw [List.drop_eq_getElem_cons (by omega), List.flatMap_cons]; simp [List.getD, show k < l.length by omega]
  rw [hd]
  have hx : S64 (l.getD k 0) := hl _ (getD_mem (by omega))
  obtain ⟨x, e⟩ : ∃ x, l.getD k 0 = x := ⟨_, rfl⟩
  rw [e] at hx ⊢
  unfold stepA
  by_cases hz : x = 0
  · simp [hz]
  · rw [if_pos (by simp [hz]), if_neg hz, List.append_assoc, (rd_int hx _ _).1]
/-- What is written behind the kind is read. -/
theorem upd_read {r : Rc} (ok : r.ok) (hk : r.k = 1) (hem : emptyB r = false) (rest : List Int) (n : Int) :
    updT ⟨updB r ++ rest, n, 0⟩ ⟨r.k, r.i, 0, 0, 0, 0, 0, 0, 0⟩ = r ∧ updS ⟨updB r ++ rest, n, 0⟩ = ⟨rest, n + (updB r).length, 0⟩ := by
  have hb := maskR_bd r
  have hnz : maskR r ≠ 0 := by
    intro h0
    have hm := mask_bd (nums r)
    have ha : r.a = 0 := by
      unfold maskR at h0
      split at h0
      · assumption
      · omega
    have hm0 : mask (nums r) = 0 := by unfold maskR at h0; rw [ha] at h0; simpa using h0
    have hz : ∀ k, k < 6 → (nums r).getD k 0 = 0 := by
      intro k hk
      have := bit_mask (nums r) k hk
      rw [hm0] at this
      unfold bitB at this
      simpa using this.symm
    have : emptyB r = true := (emptyB_iff r).2 ⟨⟨hz 0 (by omega), hz 1 (by omega), hz 2 (by omega), hz 3 (by omega), hz 4 (by omega), hz 5 (by omega)⟩, ha⟩
    rw [this] at hem
    exact absurd hem (by simp)
  have eb := rd_byte (b := maskR r) (restR r ++ rest) n
  have e1 : byteA ⟨updB r ++ rest, n, 0⟩ = maskR r := eb.1
  have e2 : byteS ⟨updB r ++ rest, n, 0⟩ = ⟨restR r ++ rest, n + 1, 0⟩ := eb.2
  have e3 : mskS ⟨updB r ++ rest, n, 0⟩ = ⟨restR r ++ rest, n + 1, 0⟩ := by
    unfold mskS
    rw [e1, e2, if_neg (by unfold badM; simp; omega)]
  have e4 : restR r ++ rest = zn (nums r) ++ ((if r.a = 0 then [] else put r.a) ++ rest) := by unfold restR; rw [List.append_assoc]
  have hl := ok.nums
  have d := fun k hk => difA_read (nums r) rfl r.a hl ((if r.a = 0 then [] else put r.a) ++ rest) (n + 1) k hk
  have s6 := dif_read (nums r) rfl r.a hl ((if r.a = 0 then [] else put r.a) ++ rest) (n + 1) 6 (by omega)
  have b6 := bit_six (nums r) rfl r.a
  rw [show (nums r).drop 6 = [] from rfl, show (nums r).take 6 = nums r from rfl] at s6
  have em : maskR r = mask (nums r) + if r.a = 0 then 0 else 64 := rfl
  have len : ((updB r).length : Int) = 1 + (zn (nums r)).length + ((if r.a = 0 then ([] : List Int) else put r.a).length : Int) := by
    unfold updB restR; rw [List.length_cons, List.length_append]; omega
  constructor
  · unfold updT
    rw [e1, e3, e4, em, d 0 (by omega), d 1 (by omega), d 2 (by omega), d 3 (by omega), d 4 (by omega), d 5 (by omega), s6, b6]
    have ea : angA (decide (r.a ≠ 0)) ⟨zn [] ++ ((if r.a = 0 then [] else put r.a) ++ rest), n + 1 + (zn (nums r)).length, 0⟩ = r.a := by
      unfold angA
      by_cases hz : r.a = 0
      · simp [hz]
      · rw [if_pos (by simp [hz]), if_neg hz]
        exact (rd_uint ok.a.1 ok.a.2 (by omega) rest _).1
    rw [ea]
    rfl
  · unfold updS
    rw [e1, e3, e4, em, s6, b6, len]
    unfold angS
    by_cases hz : r.a = 0
    · simp [hz, zn]; omega
    · rw [if_pos (by simp [hz]), if_neg hz]
      have h := rd_uint ok.a.1 ok.a.2 (by omega) rest (n + 1 + (zn (nums r)).length)
      show othS (uintA 65535 ⟨put r.a ++ rest, _, 0⟩) (uintS 65535 ⟨put r.a ++ rest, _, 0⟩) = _
      rw [h.1, h.2]
      unfold othS
      rw [if_neg hz]
      congr 1
      omega
theorem vec_read {a b c : Int} (ha : S64 a) (hb : S64 b) (hc : S64 c) (rest : List Int) (n : Int) :
    intA ⟨zs [a, b, c] ++ rest, n, 0⟩ = a ∧ intA (intS ⟨zs [a, b, c] ++ rest, n, 0⟩) = b ∧ intA (intS (intS ⟨zs [a, b, c] ++ rest, n, 0⟩)) = c ∧ vecS ⟨zs [a, b, c] ++ rest, n, 0⟩ = ⟨rest, n + (zs [a, b, c]).length, 0⟩ := by
  have e : zs [a, b, c] ++ rest = put (zig a) ++ (put (zig b) ++ (put (zig c) ++ rest)) := by simp [zs]
  have len : ((zs [a, b, c]).length : Int) = (put (zig a)).length + (put (zig b)).length + (put (zig c)).length := by simp [zs]; omega
  unfold vecS
  rw [e, len, (rd_int ha _ _).2, (rd_int hb _ _).2, (rd_int hc _ _).2, (rd_int ha _ _).1, (rd_int hb _ _).1, (rd_int hc _ _).1]
  refine ⟨rfl, rfl, rfl, ?_⟩
  congr 1
  omega
theorem who_read {r : Rc} (ok : r.ok) (rest : List Int) (n : Int) :
    whoT ⟨wholeB r ++ rest, n, 0⟩ ⟨r.k, r.i, 0, 0, 0, 0, 0, 0, 0⟩ = r ∧ whoS ⟨wholeB r ++ rest, n, 0⟩ = ⟨rest, n + (wholeB r).length, 0⟩ := by
  have e : wholeB r ++ rest = zs [r.p0, r.p1, r.p2] ++ (zs [r.v0, r.v1, r.v2] ++ (put r.a ++ rest)) := by unfold wholeB nums; simp [zs]
  have len : ((wholeB r).length : Int) = (zs [r.p0, r.p1, r.p2]).length + (zs [r.v0, r.v1, r.v2]).length + (put r.a).length := by unfold wholeB nums; simp [zs]; omega
  have v1 := vec_read ok.p0 ok.p1 ok.p2 (zs [r.v0, r.v1, r.v2] ++ (put r.a ++ rest)) n
  have v2 := vec_read ok.v0 ok.v1 ok.v2 (put r.a ++ rest) (n + (zs [r.p0, r.p1, r.p2]).length)
  have u := rd_uint ok.a.1 ok.a.2 (by omega) rest (n + (zs [r.p0, r.p1, r.p2]).length + (zs [r.v0, r.v1, r.v2]).length)
  constructor
  · unfold whoT
    rw [e, v1.2.2.2, v1.1, v1.2.1, v1.2.2.1, v2.2.2.2, v2.1, v2.2.1, v2.2.2.1, u.1]
  · unfold whoS
    rw [e, v1.2.2.2, v2.2.2.2, u.2, len]
    congr 1
    omega
/-- What is written is read. -/
theorem wr_read {r : Rc} {last : Int} (ok : r.ok) (h : wrE r last = 0) (rest : List Int) (n : Int) :
    redT ⟨wrB r last ++ rest, n, 0⟩ last = r ∧ redS ⟨wrB r last ++ rest, n, 0⟩ last = ⟨rest, n + (wrB r last).length, 0⟩ ∧ redE ⟨wrB r last ++ rest, n, 0⟩ last = 0 := by
  obtain ⟨hc, hl, hi⟩ := wrE_ok h
  obtain ⟨kb, ib, k1, k2⟩ := chk_ok hc
  have eB : wrB r last = put (r.i - last - 1) ++ (r.k :: bodyB r) := by unfold wrB; rw [if_pos h]
  have e : wrB r last ++ rest = put (r.i - last - 1) ++ (r.k :: (bodyB r ++ rest)) := by rw [eB]; simp
  have len : ((wrB r last).length : Int) = (put (r.i - last - 1)).length + 1 + (bodyB r).length := by rw [eB, List.length_append, List.length_cons]; omega
  have u := rd_uint (x := r.i - last - 1) (m := 65534 - last) (by omega) (by omega) (by omega) (r.k :: (bodyB r ++ rest)) n
  have b := rd_byte (b := r.k) (bodyB r ++ rest) (n + (put (r.i - last - 1)).length)
  have eK : hdK ⟨wrB r last ++ rest, n, 0⟩ last = r.k := by unfold hdK; rw [e, u.2, b.1]
  have eI : hdI ⟨wrB r last ++ rest, n, 0⟩ last = r.i := by unfold hdI; rw [e, u.1]; omega
  have eS : hdS ⟨wrB r last ++ rest, n, 0⟩ last = ⟨bodyB r ++ rest, n + (put (r.i - last - 1)).length + 1, 0⟩ := by unfold hdS; rw [e, u.2, b.2]
  have T0 : takT ⟨wrB r last ++ rest, n, 0⟩ last = if 4 ≤ r.k then noRec else if r.k = 1 then updT ⟨bodyB r ++ rest, n + (put (r.i - last - 1)).length + 1, 0⟩ ⟨r.k, r.i, 0, 0, 0, 0, 0, 0, 0⟩ else if r.k = 2 then ⟨r.k, r.i, 0, 0, 0, 0, 0, 0, 0⟩ else whoT ⟨bodyB r ++ rest, n + (put (r.i - last - 1)).length + 1, 0⟩ ⟨r.k, r.i, 0, 0, 0, 0, 0, 0, 0⟩ := by
    unfold takT; rw [if_neg (by omega), eK, eI, eS]
  have S0 : takS ⟨wrB r last ++ rest, n, 0⟩ last = if 4 ≤ r.k then failS ⟨bodyB r ++ rest, n + (put (r.i - last - 1)).length + 1, 0⟩ 11 else if r.k = 1 then updS ⟨bodyB r ++ rest, n + (put (r.i - last - 1)).length + 1, 0⟩ else if r.k = 2 then ⟨bodyB r ++ rest, n + (put (r.i - last - 1)).length + 1, 0⟩ else whoS ⟨bodyB r ++ rest, n + (put (r.i - last - 1)).length + 1, 0⟩ := by
    unfold takS; rw [if_neg (by omega), eK, eS]
  have h4 : ¬ 4 ≤ r.k := by omega
  rw [if_neg h4] at T0 S0
  have key : takT ⟨wrB r last ++ rest, n, 0⟩ last = r ∧ takS ⟨wrB r last ++ rest, n, 0⟩ last = ⟨rest, n + (wrB r last).length, 0⟩ := by
    rw [T0, S0, len]
    by_cases g1 : r.k = 1
    · have eb : bodyB r = updB r := by unfold bodyB; rw [if_pos g1]
      have hu := upd_read ok g1 (k1 g1) rest (n + (put (r.i - last - 1)).length + 1)
      rw [if_pos g1, if_pos g1, eb]
      refine ⟨hu.1, hu.2.trans ?_⟩
      congr 1; omega
    · by_cases g2 : r.k = 2
      · have eb : bodyB r = [] := by unfold bodyB; rw [if_neg g1, if_pos g2]
        obtain ⟨⟨q0, q1, q2, q3, q4, q5⟩, q6⟩ := (emptyB_iff r).1 (k2 g2)
        rw [if_neg g1, if_neg g1, if_pos g2, if_pos g2, eb]
        constructor
        · clear T0 S0 eK eI eS e eB u b len h hc hl hi kb ib k1 k2 ok g1 g2 eb h4
          cases r
          simp only at q0 q1 q2 q3 q4 q5 q6
          subst q0 q1 q2 q3 q4 q5 q6
          rfl
        · rw [List.nil_append, List.length_nil]
          congr 1; omega
      · have eb : bodyB r = wholeB r := by unfold bodyB; rw [if_neg g1, if_neg g2]
        have hw := who_read ok rest (n + (put (r.i - last - 1)).length + 1)
        rw [if_neg g1, if_neg g1, if_neg g2, if_neg g2, eb]
        refine ⟨hw.1, hw.2.trans ?_⟩
        congr 1; omega
  have LB : lastB last = true := by unfold lastB; rw [decide_eq_true hl]
  unfold redT redS redE
  rw [LB, key.1, key.2]
  exact ⟨rfl, rfl, rfl⟩
end Go.Proofs.Ytjjaodlgnoiheaa
