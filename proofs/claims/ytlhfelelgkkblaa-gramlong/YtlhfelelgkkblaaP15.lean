/-
  Texts Rec19, Rec20, Rec22 in one.
-/
import Derived.Test.YtlhfelelgkkblaaP14
namespace Go.Proofs.Ytlhfelelgkkblaa
open Go.RowKit
set_option linter.unusedVariables false

/-! a reader that has not failed, ahead of a number's bytes -/
theorem rd_uint {x m : Int} (h0 : 0 ≤ x) (h1 : x ≤ m) (hm : m ≤ 18446744073709551615) (r : List Int) (n : Int) :
    uintA m ⟨put x ++ r, n, 0⟩ = x ∧ uintS m ⟨put x ++ r, n, 0⟩ = ⟨r, n + (put x).length, 0⟩ := by
  have g := got_put h0 (by omega) r
  have hne : put x ++ r ≠ [] := by simp [put_ne]
  have e : uintE m (put x ++ r) = 0 := by
    unfold uintE
    rw [if_neg hne, g]
    simp only [if_true]
    rw [if_neg (by omega)]
  unfold uintA uintS
  simp only [if_true, e, g]
  simp
theorem rd_int {x : Int} (hx : S64 x) (r : List Int) (n : Int) : intA ⟨put (zig x) ++ r, n, 0⟩ = x ∧ intS ⟨put (zig x) ++ r, n, 0⟩ = ⟨r, n + (put (zig x)).length, 0⟩ := by
  have b := zig_bd hx
  have h := rd_uint (m := top64) b.1 b.2 (by unfold top64; omega) r n
  unfold intA intS
  rw [h.1, h.2, zag_zig]
  exact ⟨rfl, rfl⟩
theorem rd_byte {b : Int} (r : List Int) (n : Int) : byteA ⟨b :: r, n, 0⟩ = b ∧ byteS ⟨b :: r, n, 0⟩ = ⟨r, n + 1, 0⟩ := by
  unfold byteA byteS
  simp
/-! an Update -/
theorem bit_mask : ∀ (l : List Int) (k : Nat), k < l.length → bitB (mask l) k = decide (l.getD k 0 ≠ 0)
  | x :: r, 0, _ => by
    unfold bitB
    simp only [mask]
    by_cases h : x = 0
    · simp [h]
    · simp [h]
  | x :: r, k + 1, hk => by
    have h1 := bit_mask r k (by simpa using hk)
    have e : mask (x :: r) / 2 = mask r := by
      show ((if x = 0 then (0 : Int) else 1) + 2 * mask r) / 2 = mask r
      split <;> omega
    have e2 : mask (x :: r) / 2 ^ (k + 1) = mask r / 2 ^ k := by
      rw [Int.pow_succ, Int.mul_comm (2 ^ k) 2, ← Int.ediv_ediv_of_nonneg (by omega), e]
    rw [List.getD_cons_succ, ← h1]
    unfold bitB
    rw [e2]
theorem bit_mask6 (l : List Int) (h : l.length = 6) (a : Int) (k : Nat) (hk : k < 6) : bitB (mask l + if a = 0 then 0 else 64) k = decide (l.getD k 0 ≠ 0) := by
  rw [← bit_mask l k (by omega)]
  unfold bitB
  split
  · simp
  · have e : (mask l + 64) / 2 ^ k % 2 = mask l / 2 ^ k % 2 := by
      rcases (show k = 0 ∨ k = 1 ∨ k = 2 ∨ k = 3 ∨ k = 4 ∨ k = 5 by omega) with rfl | rfl | rfl | rfl | rfl | rfl <;> simp <;> omega
    rw [e]
theorem bit_six (l : List Int) (h : l.length = 6) (a : Int) : bitB (mask l + if a = 0 then 0 else 64) 6 = decide (a ≠ 0) := by
  have hb := mask_bd l
  rw [h] at hb
  unfold bitB
  split
  · rename_i h'; simp [h']; omega
  · rename_i h'; simp [h']; omega
/-- The numbers of an Update are read one by one. -/
theorem dif_read (l : List Int) (h6 : l.length = 6) (a : Int) (hl : ∀ x ∈ l, S64 x) (rest : List Int) (n : Int) : ∀ k, k ≤ 6 →
    difS (mask l + if a = 0 then 0 else 64) ⟨zn l ++ rest, n, 0⟩ k = ⟨zn (l.drop k) ++ rest, n + (zn (l.take k)).length, 0⟩
  | 0, _ => by simp [difS, zn]
  | k + 1, hk => by
    show stepS _ (difS _ _ k) = _
    rw [dif_read l h6 a hl rest n k (by omega), bit_mask6 l h6 a k (by omega)]
    have hd : zn (l.drop k) = (if l.getD k 0 = 0 then [] else put (zig (l.getD k 0))) ++ zn (l.drop (k + 1)) := by
      unfold zn; rw [List.drop_eq_getElem_cons (by omega), List.flatMap_cons]; simp [List.getD, show k < l.length by omega]
    have ht := zn_snoc l k (by omega)
    rw [hd, ht]
    have hx : S64 (l.getD k 0) := hl _ (getD_mem (by omega))
    obtain ⟨x, e⟩ : ∃ x, l.getD k 0 = x := ⟨_, rfl⟩
    rw [e] at hx ⊢
    unfold stepS
    by_cases hz : x = 0
    · simp [hz]
    · rw [if_pos (by simp [hz]), if_neg hz, List.append_assoc, (rd_int hx _ _).1, (rd_int hx _ _).2]
      unfold othS
      rw [if_neg hz, List.length_append]
      congr 1
      omega
theorem difA_read (l : List Int) (h6 : l.length = 6) (a : Int) (hl : ∀ x ∈ l, S64 x) (rest : List Int) (n : Int) (k : Nat) (hk : k < 6) :
    difA (mask l + if a = 0 then 0 else 64) ⟨zn l ++ rest, n, 0⟩ k = l.getD k 0 := by
  unfold difA
  rw [dif_read l h6 a hl rest n k (by omega), bit_mask6 l h6 a k hk]
  have hd : zn (l.drop k) = (if l.getD k 0 = 0 then [] else put (zig (l.getD k 0))) ++ zn (l.drop (k + 1)) := by
    unfold zn; rw [List.drop_eq_getElem_cons (by omega), List.flatMap_cons]; simp [List.getD, show k < l.length by omega]
  rw [hd]
  have hx : S64 (l.getD k 0) := hl _ (getD_mem (by omega))
  obtain ⟨x, e⟩ : ∃ x, l.getD k 0 = x := ⟨_, rfl⟩
  rw [e] at hx ⊢
  unfold stepA
  by_cases hz : x = 0
  · simp [hz]
  · rw [if_pos (by simp [hz]), if_neg hz, List.append_assoc, (rd_int hx _ _).1]
/-- What is written behind the kind is read. -/
theorem upd_read {r : Rc} (ok : r.ok) (hk : r.k = 1) (hem : emptyB r = false) (rest : List Int) (n : Int) :
    updT ⟨updB r ++ rest, n, 0⟩ ⟨r.k, r.i, 0, 0, 0, 0, 0, 0, 0⟩ = r ∧ updS ⟨updB r ++ rest, n, 0⟩ = ⟨rest, n + (updB r).length, 0⟩ := by
  have hb := maskR_bd r
  have hnz : maskR r ≠ 0 := by
    intro h0
    have hm := mask_bd (nums r)
    have ha : r.a = 0 := by
      unfold maskR at h0
      split at h0
      · assumption
      · omega
    have hm0 : mask (nums r) = 0 := by unfold maskR at h0; rw [ha] at h0; simpa using h0
    have hz : ∀ k, k < 6 → (nums r).getD k 0 = 0 := by
      intro k hk
      have := bit_mask (nums r) k hk
      rw [hm0] at this
      unfold bitB at this
      simpa using this.symm
    have : emptyB r = true := (emptyB_iff r).2 ⟨⟨hz 0 (by omega), hz 1 (by omega), hz 2 (by omega), hz 3 (by omega), hz 4 (by omega), hz 5 (by omega)⟩, ha⟩
    rw [this] at hem
    exact absurd hem (by simp)
  have eb := rd_byte (b := maskR r) (restR r ++ rest) n
  have e1 : byteA ⟨updB r ++ rest, n, 0⟩ = maskR r := eb.1
  have e2 : byteS ⟨updB r ++ rest, n, 0⟩ = ⟨restR r ++ rest, n + 1, 0⟩ := eb.2
  have e3 : mskS ⟨updB r ++ rest, n, 0⟩ = ⟨restR r ++ rest, n + 1, 0⟩ := by
    unfold mskS
    rw [e1, e2, if_neg (by unfold badM; simp; omega)]
  have e4 : restR r ++ rest = zn (nums r) ++ ((if r.a = 0 then [] else put r.a) ++ rest) := by unfold restR; rw [List.append_assoc]
  have hl := ok.nums
  have d := fun k hk => difA_read (nums r) rfl r.a hl ((if r.a = 0 then [] else put r.a) ++ rest) (n + 1) k hk
  have s6 := dif_read (nums r) rfl r.a hl ((if r.a = 0 then [] else put r.a) ++ rest) (n + 1) 6 (by omega)
  have b6 := bit_six (nums r) rfl r.a
  rw [show (nums r).drop 6 = [] from rfl, show (nums r).take 6 = nums r from rfl] at s6
  have em : maskR r = mask (nums r) + if r.a = 0 then 0 else 64 := rfl
  have len : ((updB r).length : Int) = 1 + (zn (nums r)).length + ((if r.a = 0 then ([] : List Int) else put r.a).length : Int) := by
    unfold updB restR; rw [List.length_cons, List.length_append]; omega
  constructor
  · unfold updT
    rw [e1, e3, e4, em, d 0 (by omega), d 1 (by omega), d 2 (by omega), d 3 (by omega), d 4 (by omega), d 5 (by omega), s6, b6]
    have ea : angA (decide (r.a ≠ 0)) ⟨zn [] ++ ((if r.a = 0 then [] else put r.a) ++ rest), n + 1 + (zn (nums r)).length, 0⟩ = r.a := by
      unfold angA
      by_cases hz : r.a = 0
      · simp [hz]
      · rw [if_pos (by simp [hz]), if_neg hz]
        exact (rd_uint ok.a.1 ok.a.2 (by omega) rest _).1
    rw [ea]
    rfl
  · unfold updS
    rw [e1, e3, e4, em, s6, b6, len]
    unfold angS
    by_cases hz : r.a = 0
    · simp [hz, zn]; omega
    · rw [if_pos (by simp [hz]), if_neg hz]
      have h := rd_uint ok.a.1 ok.a.2 (by omega) rest (n + 1 + (zn (nums r)).length)
      show othS (uintA 65535 ⟨put r.a ++ rest, _, 0⟩) (uintS 65535 ⟨put r.a ++ rest, _, 0⟩) = _
      rw [h.1, h.2]
      unfold othS
      rw [if_neg hz]
      congr 1
      omega
theorem vec_read {a b c : Int} (ha : S64 a) (hb : S64 b) (hc : S64 c) (rest : List Int) (n : Int) :
    intA ⟨zs [a, b, c] ++ rest, n, 0⟩ = a ∧ intA (intS ⟨zs [a, b, c] ++ rest, n, 0⟩) = b ∧ intA (intS (intS ⟨zs [a, b, c] ++ rest, n, 0⟩)) = c ∧ vecS ⟨zs [a, b, c] ++ rest, n, 0⟩ = ⟨rest, n + (zs [a, b, c]).length, 0⟩ := by
  have e : zs [a, b, c] ++ rest = put (zig a) ++ (put (zig b) ++ (put (zig c) ++ rest)) := by simp [zs]
  have len : ((zs [a, b, c]).length : Int) = (put (zig a)).length + (put (zig b)).length + (put (zig c)).length := by simp [zs]; omega
  unfold vecS
  rw [e, len, (rd_int ha _ _).2, (rd_int hb _ _).2, (rd_int hc _ _).2, (rd_int ha _ _).1, (rd_int hb _ _).1, (rd_int hc _ _).1]
  refine ⟨rfl, rfl, rfl, ?_⟩
  congr 1
  omega
theorem who_read {r : Rc} (ok : r.ok) (rest : List Int) (n : Int) :
    whoT ⟨wholeB r ++ rest, n, 0⟩ ⟨r.k, r.i, 0, 0, 0, 0, 0, 0, 0⟩ = r ∧ whoS ⟨wholeB r ++ rest, n, 0⟩ = ⟨rest, n + (wholeB r).length, 0⟩ := by
  have e : wholeB r ++ rest = zs [r.p0, r.p1, r.p2] ++ (zs [r.v0, r.v1, r.v2] ++ (put r.a ++ rest)) := by unfold wholeB nums; simp [zs]
  have len : ((wholeB r).length : Int) = (zs [r.p0, r.p1, r.p2]).length + (zs [r.v0, r.v1, r.v2]).length + (put r.a).length := by unfold wholeB nums; simp [zs]; omega
  have v1 := vec_read ok.p0 ok.p1 ok.p2 (zs [r.v0, r.v1, r.v2] ++ (put r.a ++ rest)) n
  have v2 := vec_read ok.v0 ok.v1 ok.v2 (put r.a ++ rest) (n + (zs [r.p0, r.p1, r.p2]).length)
  have u := rd_uint ok.a.1 ok.a.2 (by omega) rest (n + (zs [r.p0, r.p1, r.p2]).length + (zs [r.v0, r.v1, r.v2]).length)
  constructor
  · unfold whoT
    rw [e, v1.2.2.2, v1.1, v1.2.1, v1.2.2.1, v2.2.2.2, v2.1, v2.2.1, v2.2.2.1, u.1]
  · unfold whoS
    rw [e, v1.2.2.2, v2.2.2.2, u.2, len]
    congr 1
    omega
/-- What is written is read. -/
theorem wr_read {r : Rc} {last : Int} (ok : r.ok) (h : wrE r last = 0) (rest : List Int) (n : Int) :
    redT ⟨wrB r last ++ rest, n, 0⟩ last = r ∧ redS ⟨wrB r last ++ rest, n, 0⟩ last = ⟨rest, n + (wrB r last).length, 0⟩ ∧ redE ⟨wrB r last ++ rest, n, 0⟩ last = 0 := by
  obtain ⟨hc, hl, hi⟩ := wrE_ok h
  obtain ⟨kb, ib, k1, k2⟩ := chk_ok hc
  have eB : wrB r last = put (r.i - last - 1) ++ (r.k :: bodyB r) := by unfold wrB; rw [if_pos h]
  have e : wrB r last ++ rest = put (r.i - last - 1) ++ (r.k :: (bodyB r ++ rest)) := by rw [eB]; simp
  have len : ((wrB r last).length : Int) = (put (r.i - last - 1)).length + 1 + (bodyB r).length := by rw [eB, List.length_append, List.length_cons]; omega
  have u := rd_uint (x := r.i - last - 1) (m := 65534 - last) (by omega) (by omega) (by omega) (r.k :: (bodyB r ++ rest)) n
  have b := rd_byte (b := r.k) (bodyB r ++ rest) (n + (put (r.i - last - 1)).length)
  have eK : hdK ⟨wrB r last ++ rest, n, 0⟩ last = r.k := by unfold hdK; rw [e, u.2, b.1]
  have eI : hdI ⟨wrB r last ++ rest, n, 0⟩ last = r.i := by unfold hdI; rw [e, u.1]; omega
  have eS : hdS ⟨wrB r last ++ rest, n, 0⟩ last = ⟨bodyB r ++ rest, n + (put (r.i - last - 1)).length + 1, 0⟩ := by unfold hdS; rw [e, u.2, b.2]
  have T0 : takT ⟨wrB r last ++ rest, n, 0⟩ last = if 4 ≤ r.k then noRec else if r.k = 1 then updT ⟨bodyB r ++ rest, n + (put (r.i - last - 1)).length + 1, 0⟩ ⟨r.k, r.i, 0, 0, 0, 0, 0, 0, 0⟩ else if r.k = 2 then ⟨r.k, r.i, 0, 0, 0, 0, 0, 0, 0⟩ else whoT ⟨bodyB r ++ rest, n + (put (r.i - last - 1)).length + 1, 0⟩ ⟨r.k, r.i, 0, 0, 0, 0, 0, 0, 0⟩ := by
    unfold takT; rw [if_neg (by omega), eK, eI, eS]
  have S0 : takS ⟨wrB r last ++ rest, n, 0⟩ last = if 4 ≤ r.k then failS ⟨bodyB r ++ rest, n + (put (r.i - last - 1)).length + 1, 0⟩ 11 else if r.k = 1 then updS ⟨bodyB r ++ rest, n + (put (r.i - last - 1)).length + 1, 0⟩ else if r.k = 2 then ⟨bodyB r ++ rest, n + (put (r.i - last - 1)).length + 1, 0⟩ else whoS ⟨bodyB r ++ rest, n + (put (r.i - last - 1)).length + 1, 0⟩ := by
    unfold takS; rw [if_neg (by omega), eK, eS]
  have h4 : ¬ 4 ≤ r.k := by omega
  rw [if_neg h4] at T0 S0
  have key : takT ⟨wrB r last ++ rest, n, 0⟩ last = r ∧ takS ⟨wrB r last ++ rest, n, 0⟩ last = ⟨rest, n + (wrB r last).length, 0⟩ := by
    rw [T0, S0, len]
    by_cases g1 : r.k = 1
    · have eb : bodyB r = updB r := by unfold bodyB; rw [if_pos g1]
      have hu := upd_read ok g1 (k1 g1) rest (n + (put (r.i - last - 1)).length + 1)
      rw [if_pos g1, if_pos g1, eb]
      refine ⟨hu.1, hu.2.trans ?_⟩
      congr 1; omega
    · by_cases g2 : r.k = 2
      · have eb : bodyB r = [] := by unfold bodyB; rw [if_neg g1, if_pos g2]
        obtain ⟨⟨q0, q1, q2, q3, q4, q5⟩, q6⟩ := (emptyB_iff r).1 (k2 g2)
        rw [if_neg g1, if_neg g1, if_pos g2, if_pos g2, eb]
        constructor
        · clear T0 S0 eK eI eS e eB u b len h hc hl hi kb ib k1 k2 ok g1 g2 eb h4
          cases r
          simp only at q0 q1 q2 q3 q4 q5 q6
          subst q0 q1 q2 q3 q4 q5 q6
          rfl
        · rw [List.nil_append, List.length_nil]
          congr 1; omega
      · have eb : bodyB r = wholeB r := by unfold bodyB; rw [if_neg g1, if_neg g2]
        have hw := who_read ok rest (n + (put (r.i - last - 1)).length + 1)
        rw [if_neg g1, if_neg g1, if_neg g2, if_neg g2, eb]
        refine ⟨hw.1, hw.2.trans ?_⟩
        congr 1; omega
  have LB : lastB last = true := by unfold lastB; rw [decide_eq_true hl]
  unfold redT redS redE
  rw [LB, key.1, key.2]
  exact ⟨rfl, rfl, rfl⟩
end Go.Proofs.Ytlhfelelgkkblaa

namespace Go.Proofs.Ytlhfelelgkkblaa
open Go.RowKit
set_option linter.unusedVariables false

/-- These bytes were taken, with no error. -/
structure Tk (s s' : St) (b : List Int) : Prop where
  e0 : s.e = 0
  e : s'.e = 0
  l : s.l = b ++ s'.l
  n : s'.n = s.n + b.length
theorem Tk.refl {s : St} (h : s.e = 0) : Tk s s [] := ⟨h, h, rfl, by simp⟩
theorem Tk.trans {s t u : St} {a b : List Int} (h : Tk s t a) (k : Tk t u b) : Tk s u (a ++ b) :=
  ⟨h.e0, k.e, by rw [h.l, k.l, List.append_assoc], by rw [k.n, h.n, List.length_append]; omega⟩
theorem Tk.bytes {s s' : St} {b : List Int} (h : Tk s s' b) (hb : Bytes s.l) : Bytes s'.l := by
  intro x hx
  exact hb x (by rw [h.l]; exact List.mem_append_right _ hx)
theorem took_uint {s : St} {m : Int} (hb : Bytes s.l) (h : (uintS m s).e = 0) : Tk s (uintS m s) (put (uintA m s)) := by
  by_cases he : s.e = 0
  · unfold uintS uintA at *
    rw [if_pos he] at h
    rw [if_pos he, if_pos he]
    by_cases hu : uintE m s.l = 0
    · rw [if_pos hu, if_pos hu]
      have hne : s.l ≠ [] := by intro h'; unfold uintE at hu; rw [if_pos h'] at hu; omega
      have hg : (got s.l).2.2 = 0 := by
        unfold uintE at hu
        rw [if_neg hne] at hu
        split at hu
        · assumption
        · assumption
      obtain ⟨z0, z1, n, hn, n1, n2, hp⟩ := put_got hb (got s.l).1 (got s.l).2.1 (by rw [← hg])
      refine ⟨he, rfl, ?_, ?_⟩
      · rw [hp, hn]; simp
      · rw [hp, hn, List.length_take]; simp only; omega
    · rw [if_neg hu] at h
      exact absurd h hu
  · rw [(uintS_e m he).1] at h
    exact absurd h he
theorem took_int {s : St} (hb : Bytes s.l) (h : (intS s).e = 0) : Tk s (intS s) (put (zig (intA s))) ∧ S64 (intA s) := by
  have k := took_uint (m := top64) hb h
  have b := uintA_bd top64 s
  unfold intA intS
  rw [zig_zag b.1]
  exact ⟨k, zag_bd b⟩
theorem took_byte {s : St} (hb : Bytes s.l) (h : (byteS s).e = 0) : Tk s (byteS s) [byteA s] := by
  by_cases he : s.e = 0
  · unfold byteS byteA at *
    rw [if_pos he] at h
    rw [if_pos he, if_pos he]
    by_cases hl : s.l = []
    · rw [if_pos hl] at h; simp at h
    · rw [if_neg hl]
      refine ⟨he, rfl, ?_, rfl⟩
      cases hs : s.l with
      | nil => exact absurd hs hl
      | cons x r => simp
  · rw [(byteS_e he).1] at h
    exact absurd h he
theorem oth_ok {x : Int} {s : St} (h : (othS x s).e = 0) : x ≠ 0 ∧ othS x s = s ∧ s.e = 0 := by
  unfold othS at *
  by_cases hx : x = 0
  · rw [if_pos hx] at h
    unfold failS at h
    split at h
    · simp at h
    · rename_i h1; exact absurd h h1
  · rw [if_neg hx] at h
    rw [if_neg hx]
    exact ⟨hx, rfl, h⟩
theorem took_step {s : St} {b : Bool} (hb : Bytes s.l) (h : (stepS b s).e = 0) :
    Tk s (stepS b s) (if stepA b s = 0 then [] else put (zig (stepA b s))) ∧ S64 (stepA b s) ∧ b = decide (stepA b s ≠ 0) := by
  cases b
  · have e1 : stepS false s = s := rfl
    have e2 : stepA false s = 0 := rfl
    rw [e1] at h ⊢
    rw [e2]
    exact ⟨Tk.refl h, by unfold S64; omega, by simp⟩
  · have e1 : stepS true s = othS (intA s) (intS s) := rfl
    have e2 : stepA true s = intA s := rfl
    rw [e1] at h ⊢
    rw [e2]
    obtain ⟨h1, h2, h3⟩ := oth_ok h
    have k := took_int hb h3
    rw [h2, if_neg h1]
    exact ⟨k.1, k.2, by simp [h1]⟩
theorem stuck_step {s : St} {b : Bool} (h : (stepS b s).e = 0) : s.e = 0 := by
  by_cases he : s.e = 0
  · exact he
  · rw [(stepS_e b he).1] at h; exact h
theorem stuck_int {s : St} (h : (intS s).e = 0) : s.e = 0 := by
  by_cases he : s.e = 0
  · exact he
  · rw [(intS_e he).1] at h; exact h
theorem stuck_uint {s : St} {m : Int} (h : (uintS m s).e = 0) : s.e = 0 := by
  by_cases he : s.e = 0
  · exact he
  · rw [(uintS_e m he).1] at h; exact h
theorem stuck_byte {s : St} (h : (byteS s).e = 0) : s.e = 0 := by
  by_cases he : s.e = 0
  · exact he
  · rw [(byteS_e he).1] at h; exact h
theorem stuck_dif {s : St} {m : Int} : ∀ k j, (difS m s (k + j)).e = 0 → (difS m s k).e = 0
  | k, 0, h => h
  | k, j + 1, h => stuck_dif k j (stuck_step (s := difS m s (k + j)) h)
theorem six_bits (m : Int) (h0 : 0 ≤ m) (h1 : m ≤ 127) (d0 d1 d2 d3 d4 d5 a : Int)
    (b0 : bitB m 0 = decide (d0 ≠ 0)) (b1 : bitB m 1 = decide (d1 ≠ 0)) (b2 : bitB m 2 = decide (d2 ≠ 0)) (b3 : bitB m 3 = decide (d3 ≠ 0)) (b4 : bitB m 4 = decide (d4 ≠ 0)) (b5 : bitB m 5 = decide (d5 ≠ 0)) (b6 : bitB m 6 = decide (a ≠ 0)) :
    m = mask [d0, d1, d2, d3, d4, d5] + if a = 0 then 0 else 64 := by
  have key : ∀ (k : Nat) (d : Int), bitB m k = decide (d ≠ 0) → (if d = 0 then (0 : Int) else 1) = m / 2 ^ k % 2 := by
    intro k d hb
    have p : (0 : Int) ≤ m / 2 ^ k := Int.ediv_nonneg h0 (Int.pow_nonneg (by omega))
    unfold bitB at hb
    by_cases hd : d = 0
    · rw [if_pos hd]
      have : ¬ (m / 2 ^ k % 2 = 1) := by
        intro h'; rw [decide_eq_true h'] at hb; simp [hd] at hb
      omega
    · rw [if_neg hd]
      by_cases h' : m / 2 ^ k % 2 = 1
      · exact h'.symm
      · rw [decide_eq_false h'] at hb; simp [hd] at hb
  have k0 := key 0 d0 b0
  have k1 := key 1 d1 b1
  have k2 := key 2 d2 b2
  have k3 := key 3 d3 b3
  have k4 := key 4 d4 b4
  have k5 := key 5 d5 b5
  have k6 := key 6 a b6
  have e6 : (if a = 0 then (0 : Int) else 64) = 64 * (if a = 0 then (0 : Int) else 1) := by split <;> rfl
  simp only [mask]
  rw [e6, k0, k1, k2, k3, k4, k5, k6]
  simp only [show (2 : Int) ^ 0 = 1 from rfl, show (2 : Int) ^ 1 = 2 from rfl, show (2 : Int) ^ 2 = 4 from rfl, show (2 : Int) ^ 3 = 8 from rfl, show (2 : Int) ^ 4 = 16 from rfl, show (2 : Int) ^ 5 = 32 from rfl, show (2 : Int) ^ 6 = 64 from rfl]
  omega
theorem took_upd {s : St} (hb : Bytes s.l) (i : Int) (h : (updS s).e = 0) :
    Tk s (updS s) (updB (updT s ⟨1, i, 0, 0, 0, 0, 0, 0, 0⟩)) ∧ emptyB (updT s ⟨1, i, 0, 0, 0, 0, 0, 0, 0⟩) = false ∧
      (∀ x ∈ nums (updT s ⟨1, i, 0, 0, 0, 0, 0, 0, 0⟩), S64 x) ∧ 0 ≤ (updT s ⟨1, i, 0, 0, 0, 0, 0, 0, 0⟩).a ∧ (updT s ⟨1, i, 0, 0, 0, 0, 0, 0, 0⟩).a ≤ 65535 := by
  obtain ⟨m, hm⟩ : ∃ m, byteA s = m := ⟨_, rfl⟩
  obtain ⟨t, ht⟩ : ∃ t, mskS s = t := ⟨_, rfl⟩
  have hS : updS s = angS (bitB m 6) (difS m t 6) := by unfold updS; rw [hm, ht]
  have hT : updT s ⟨1, i, 0, 0, 0, 0, 0, 0, 0⟩ = ⟨1, i, difA m t 0, difA m t 1, difA m t 2, difA m t 3, difA m t 4, difA m t 5, angA (bitB m 6) (difS m t 6)⟩ := by unfold updT; rw [hm, ht]
  rw [hS] at h
  -- the angle
  have ha : ∀ u : St, Bytes u.l → (angS (bitB m 6) u).e = 0 → Tk u (angS (bitB m 6) u) (if angA (bitB m 6) u = 0 then [] else put (angA (bitB m 6) u)) ∧ (0 ≤ angA (bitB m 6) u ∧ angA (bitB m 6) u ≤ 65535) ∧ bitB m 6 = decide (angA (bitB m 6) u ≠ 0) := by
    intro u hu
    cases bitB m 6
    · intro h'
      have e1 : angS false u = u := rfl
      have e2 : angA false u = 0 := rfl
      rw [e1] at h' ⊢
      rw [e2]
      exact ⟨Tk.refl h', by omega, by simp⟩
    · intro h'
      have e1 : angS true u = othS (uintA 65535 u) (uintS 65535 u) := rfl
      have e2 : angA true u = uintA 65535 u := rfl
      rw [e1] at h' ⊢
      rw [e2]
      obtain ⟨h1, h2, h3⟩ := oth_ok h'
      rw [h2, if_neg h1]
      exact ⟨took_uint hu h3, ⟨(uintA_bd 65535 u).1, uintA_max (by omega) u⟩, by simp [h1]⟩
  have e6 : (difS m t 6).e = 0 := by
    by_cases he : (difS m t 6).e = 0
    · exact he
    · rw [(angS_e _ he).1] at h; exact h
  have et : t.e = 0 := stuck_dif 0 6 e6
  have hgood : badM m = false := by
    cases hbad : badM m
    · rfl
    · have := mskS_bad (s := s) (by rw [hm]; exact hbad)
      rw [ht] at this
      exact absurd et this
  have htb : t = byteS s := by rw [← ht]; unfold mskS; rw [hm, hgood]; rfl
  have kb := took_byte hb (by rw [← htb]; exact et)
  rw [hm, ← htb] at kb
  have hbt := kb.bytes hb
  have mb := byteA_bd hb
  rw [hm] at mb
  have mb2 : m ≤ 127 ∧ m ≠ 0 := by unfold badM at hgood; simp at hgood; omega
  -- six steps
  have st : ∀ k, k < 6 → (difS m t (k + 1)).e = 0 := fun k hk => stuck_dif (k + 1) (5 - k) (by rw [show k + 1 + (5 - k) = 6 by omega]; exact e6)
  have q0 := took_step (s := t) (b := bitB m 0) hbt (st 0 (by omega))
  have c0 := q0.1.bytes hbt
  have q1 := took_step (s := difS m t 1) (b := bitB m 1) c0 (st 1 (by omega))
  have c1 := q1.1.bytes c0
  have q2 := took_step (s := difS m t 2) (b := bitB m 2) c1 (st 2 (by omega))
  have c2 := q2.1.bytes c1
  have q3 := took_step (s := difS m t 3) (b := bitB m 3) c2 (st 3 (by omega))
  have c3 := q3.1.bytes c2
  have q4 := took_step (s := difS m t 4) (b := bitB m 4) c3 (st 4 (by omega))
  have c4 := q4.1.bytes c3
  have q5 := took_step (s := difS m t 5) (b := bitB m 5) c4 (st 5 (by omega))
  have c5 := q5.1.bytes c4
  have q6 := ha (difS m t 6) c5 h
  have hmk := six_bits m mb.1 mb2.1 (difA m t 0) (difA m t 1) (difA m t 2) (difA m t 3) (difA m t 4) (difA m t 5) (angA (bitB m 6) (difS m t 6)) q0.2.2 q1.2.2 q2.2.2 q3.2.2 q4.2.2 q5.2.2 q6.2.2
  have all := ((((((kb.trans q0.1).trans q1.1).trans q2.1).trans q3.1).trans q4.1).trans q5.1).trans q6.1
  have hbytes : updB ⟨1, i, difA m t 0, difA m t 1, difA m t 2, difA m t 3, difA m t 4, difA m t 5, angA (bitB m 6) (difS m t 6)⟩ =
      ((((((([m] ++ if difA m t 0 = 0 then [] else put (zig (difA m t 0))) ++ if difA m t 1 = 0 then [] else put (zig (difA m t 1))) ++ if difA m t 2 = 0 then [] else put (zig (difA m t 2))) ++ if difA m t 3 = 0 then [] else put (zig (difA m t 3))) ++ if difA m t 4 = 0 then [] else put (zig (difA m t 4))) ++ if difA m t 5 = 0 then [] else put (zig (difA m t 5))) ++ if angA (bitB m 6) (difS m t 6) = 0 then [] else put (angA (bitB m 6) (difS m t 6))) := by
    unfold updB maskR restR
    have em : mask (nums ⟨1, i, difA m t 0, difA m t 1, difA m t 2, difA m t 3, difA m t 4, difA m t 5, angA (bitB m 6) (difS m t 6)⟩) + (if angA (bitB m 6) (difS m t 6) = 0 then 0 else 64) = m := hmk.symm
    rw [em]
    simp [zn, nums]
  refine ⟨?_, ?_, ?_, ?_⟩
  · rw [hS, hT, hbytes]
    exact all
  · rw [hT]
    cases he : emptyB ⟨1, i, difA m t 0, difA m t 1, difA m t 2, difA m t 3, difA m t 4, difA m t 5, angA (bitB m 6) (difS m t 6)⟩
    · rfl
    · obtain ⟨⟨z0, z1, z2, z3, z4, z5⟩, z6⟩ := (emptyB_iff _).1 he
      simp only at z0 z1 z2 z3 z4 z5 z6
      rw [z0, z1, z2, z3, z4, z5, z6] at hmk
      exact absurd hmk (by simpa [mask] using mb2.2)
  · rw [hT]
    intro x hx
    simp only [nums, List.mem_cons, List.not_mem_nil, or_false] at hx
    rcases hx with h' | h' | h' | h' | h' | h' <;> rw [h']
    · exact q0.2.1
    · exact q1.2.1
    · exact q2.2.1
    · exact q3.2.1
    · exact q4.2.1
    · exact q5.2.1
  · rw [hT]; exact q6.2.1
theorem took_who {s : St} (hb : Bytes s.l) (k i : Int) (h : (whoS s).e = 0) :
    Tk s (whoS s) (wholeB (whoT s ⟨k, i, 0, 0, 0, 0, 0, 0, 0⟩)) ∧ (∀ x ∈ nums (whoT s ⟨k, i, 0, 0, 0, 0, 0, 0, 0⟩), S64 x) ∧ 0 ≤ (whoT s ⟨k, i, 0, 0, 0, 0, 0, 0, 0⟩).a ∧ (whoT s ⟨k, i, 0, 0, 0, 0, 0, 0, 0⟩).a ≤ 65535 := by
  have e6 : (vecS (vecS s)).e = 0 := stuck_uint (m := 65535) h
  have e5 : (intS (intS (vecS s))).e = 0 := stuck_int e6
  have e4 : (intS (vecS s)).e = 0 := stuck_int e5
  have e3 : (vecS s).e = 0 := stuck_int e4
  have e2 : (intS (intS s)).e = 0 := stuck_int e3
  have e1 : (intS s).e = 0 := stuck_int e2
  have q0 := took_int hb e1
  have c0 := q0.1.bytes hb
  have q1 := took_int c0 e2
  have c1 := q1.1.bytes c0
  have q2 := took_int c1 e3
  have c2 := q2.1.bytes c1
  have q3 := took_int (s := vecS s) c2 e4
  have c3 := q3.1.bytes c2
  have q4 := took_int c3 e5
  have c4 := q4.1.bytes c3
  have q5 := took_int c4 e6
  have c5 := q5.1.bytes c4
  have q6 := took_uint (m := 65535) (s := vecS (vecS s)) c5 h
  have all := (((((q0.1.trans q1.1).trans q2.1).trans q3.1).trans q4.1).trans q5.1).trans q6
  refine ⟨?_, ?_, (uintA_bd 65535 _).1, uintA_max (by omega) _⟩
  · have e : wholeB (whoT s ⟨k, i, 0, 0, 0, 0, 0, 0, 0⟩) = (((((put (zig (intA s)) ++ put (zig (intA (intS s)))) ++ put (zig (intA (intS (intS s))))) ++ put (zig (intA (vecS s)))) ++ put (zig (intA (intS (vecS s))))) ++ put (zig (intA (intS (intS (vecS s)))))) ++ put (uintA 65535 (vecS (vecS s))) := by
      unfold wholeB whoT nums
      simp [zs]
    rw [e]
    exact all
  · intro x hx
    simp only [whoT, nums, List.mem_cons, List.not_mem_nil, or_false] at hx
    rcases hx with h' | h' | h' | h' | h' | h' <;> rw [h']
    · exact q0.2
    · exact q1.2
    · exact q2.2
    · exact q3.2
    · exact q4.2
    · exact q5.2
theorem fail_ne {s : St} {x : Int} (hx : x ≠ 0) : (failS s x).e ≠ 0 := by
  unfold failS
  split
  · exact hx
  · assumption
theorem ok_of {r : Rc} (hk : S64 r.k) (hi : S64 r.i) (hn : ∀ x ∈ nums r, S64 x) (ha : 0 ≤ r.a ∧ r.a ≤ 65535) : r.ok :=
  ⟨hk, hi, hn _ (by simp [nums]), hn _ (by simp [nums]), hn _ (by simp [nums]), hn _ (by simp [nums]), hn _ (by simp [nums]), hn _ (by simp [nums]), ha⟩
/-- A record that was read is written as the bytes that were taken. -/
theorem one_read {s : St} {last : Int} (hb : Bytes s.l) (h : redE s last = 0) :
    (redT s last).ok ∧ wrE (redT s last) last = 0 ∧ Tk s (redS s last) (wrB (redT s last) last) := by
  unfold redE at h
  by_cases hlb : lastB last = true
  · rw [if_pos hlb] at h
    have hl : -1 ≤ last ∧ last ≤ 65535 := by unfold lastB at hlb; simpa using hlb
    unfold redT redS
    rw [if_pos hlb, if_pos hlb, if_pos h]
    by_cases h65 : last = 65535
    · exfalso
      unfold takS at h
      rw [if_pos h65] at h
      exact fail_ne (by omega) h
    obtain ⟨k, hk⟩ : ∃ k, hdK s last = k := ⟨_, rfl⟩
    obtain ⟨i, hi⟩ : ∃ i, hdI s last = i := ⟨_, rfl⟩
    obtain ⟨t, ht⟩ : ∃ t, hdS s last = t := ⟨_, rfl⟩
    have T0 : takT s last = if 4 ≤ k then noRec else if k = 1 then updT t ⟨k, i, 0, 0, 0, 0, 0, 0, 0⟩ else if k = 2 then ⟨k, i, 0, 0, 0, 0, 0, 0, 0⟩ else whoT t ⟨k, i, 0, 0, 0, 0, 0, 0, 0⟩ := by
      unfold takT; rw [if_neg h65, hk, hi, ht]
    have S0 : takS s last = if 4 ≤ k then failS t 11 else if k = 1 then updS t else if k = 2 then t else whoS t := by
      unfold takS; rw [if_neg h65, hk, ht]
    have k4 : ¬ 4 ≤ k := by
      intro h4
      rw [S0, if_pos h4] at h
      exact fail_ne (by omega) h
    rw [if_neg k4] at T0 S0
    have et : t.e = 0 := by
      rw [S0] at h
      by_cases he : t.e = 0
      · exact he
      · exfalso
        split at h
        · have hm : mskS t = t := by unfold mskS; rw [(byteS_e he).1, failS_e 7 he]; split <;> rfl
          unfold updS at h
          rw [hm, difS_e _ he, (angS_e _ he).1] at h
          exact he h
        · split at h
          · exact he h
          · have e1 := (intS_e he).1
            have ev : vecS t = t := by unfold vecS; rw [e1, e1, e1]
            unfold whoS at h
            rw [ev, ev, (uintS_e _ he).1] at h
            exact he h
    have eb : (byteS (uintS (65534 - last) s)).e = 0 := by rw [← ht] at et; exact et
    have eu := stuck_byte eb
    have qu := took_uint hb eu
    have cu := qu.bytes hb
    have qb := took_byte cu eb
    have ct := qb.bytes cu
    have ub0 := (uintA_bd (65534 - last) s).1
    have ub1 := uintA_max (m := 65534 - last) (by omega) s
    have kb := byteA_bd cu
    have hkk : byteA (uintS (65534 - last) s) = k := hk
    have hii : last + 1 + uintA (65534 - last) s = i := hi
    have htt : byteS (uintS (65534 - last) s) = t := ht
    rw [hkk] at kb qb
    rw [htt] at qb ct
    have hd : uintA (65534 - last) s = i - last - 1 := by omega
    rw [hd] at qu
    have head := qu.trans qb
    have key : ∀ r : Rc, r.k = k → r.i = i → chk r = 0 → wrE r last = 0 ∧ wrB r last = (put (i - last - 1) ++ [k]) ++ bodyB r := by
      intro r e1 e2 e3
      have w0 : wrE r last = 0 := by unfold wrE; rw [if_pos e3, if_neg (by omega), if_neg (by omega)]
      refine ⟨w0, ?_⟩
      unfold wrB
      rw [if_pos w0, e1, e2]
      simp
    by_cases g1 : k = 1
    · rw [if_pos g1] at T0 S0
      rw [S0] at h
      subst g1
      have q := took_upd ct i h
      have c : chk (updT t ⟨1, i, 0, 0, 0, 0, 0, 0, 0⟩) = 0 := by
        have e1 : (updT t ⟨1, i, 0, 0, 0, 0, 0, 0, 0⟩).k = 1 := rfl
        have e2 : (updT t ⟨1, i, 0, 0, 0, 0, 0, 0, 0⟩).i = i := rfl
        unfold chk
        rw [e1, e2, q.2.1, if_neg (by omega), if_neg (by omega), if_neg (by simp)]
      have w := key _ rfl rfl c
      rw [T0, S0]
      refine ⟨ok_of (by unfold S64; show _ ∧ _; simp only [updT]; omega) (by unfold S64; show _ ∧ _; simp only [updT]; omega) q.2.2.1 q.2.2.2, w.1, ?_⟩
      rw [w.2]
      exact head.trans q.1
    · rw [if_neg g1] at T0 S0
      by_cases g2 : k = 2
      · rw [if_pos g2] at T0 S0
        subst g2
        have hem : emptyB ⟨2, i, 0, 0, 0, 0, 0, 0, 0⟩ = true := by rw [emptyB_iff]; exact ⟨⟨rfl, rfl, rfl, rfl, rfl, rfl⟩, rfl⟩
        have c : chk ⟨2, i, 0, 0, 0, 0, 0, 0, 0⟩ = 0 := by
          unfold chk
          rw [hem, if_neg (by simp), if_neg (by simp only; omega), if_neg (by simp)]
        have w := key _ rfl rfl c
        rw [T0, S0]
        refine ⟨ok_of (by unfold S64; simp only; omega) (by unfold S64; simp only; omega) (by intro x hx; simp [nums] at hx; subst hx; unfold S64; omega) (by simp only; omega), w.1, ?_⟩
        rw [w.2]
        have eb : bodyB ⟨2, i, 0, 0, 0, 0, 0, 0, 0⟩ = [] := by unfold bodyB; rw [if_neg (by simp), if_pos rfl]
        rw [eb, List.append_nil]
        exact head
      · rw [if_neg g2] at T0 S0
        rw [S0] at h
        have q := took_who ct k i h
        have e1 : (whoT t ⟨k, i, 0, 0, 0, 0, 0, 0, 0⟩).k = k := rfl
        have e2 : (whoT t ⟨k, i, 0, 0, 0, 0, 0, 0, 0⟩).i = i := rfl
        have c : chk (whoT t ⟨k, i, 0, 0, 0, 0, 0, 0, 0⟩) = 0 := by
          unfold chk
          rw [e1, e2, if_neg (by omega), if_neg (by omega), if_neg (by omega)]
        have w := key _ rfl rfl c
        rw [T0, S0]
        refine ⟨ok_of (by rw [e1]; unfold S64; omega) (by rw [e2]; unfold S64; omega) q.2.1 q.2.2, w.1, ?_⟩
        rw [w.2]
        have eb : bodyB (whoT t ⟨k, i, 0, 0, 0, 0, 0, 0, 0⟩) = wholeB (whoT t ⟨k, i, 0, 0, 0, 0, 0, 0, 0⟩) := by unfold bodyB; rw [e1, if_neg g1, if_neg g2]
        rw [eb]
        exact head.trans q.1
  · rw [if_neg hlb] at h
    omega
theorem red_no {s : St} {last : Int} (h : redE s last ≠ 0) : redT s last = noRec := by
  unfold redT redE at *
  split
  · rename_i hl
    rw [if_pos hl] at h
    rw [if_neg h]
  · rfl
end Go.Proofs.Ytlhfelelgkkblaa

namespace Go.Proofs.Ytlhfelelgkkblaa
open Go.RowKit
set_option linter.unusedVariables false

/-! rows of records -/
def recs (L : List Rc) : List Value := L.flatMap recC
theorem recs_len : ∀ L : List Rc, (recs L).length = L.length * 9
  | [] => rfl
  | r :: L => by
    have := recs_len L
    unfold recs at this ⊢
    have e : (recC r).length = 9 := rfl
    rw [List.flatMap_cons, List.length_append, this, e, List.length_cons]
    omega
theorem recs_snoc (L : List Rc) (r : Rc) : recs (L ++ [r]) = recs L ++ recC r := by unfold recs; simp
theorem recC_one (r : Rc) : ∀ u ∈ recC r, u.oneCell' = true := by
  intro u hu
  simp only [recC, List.mem_cons, List.not_mem_nil, or_false] at hu
  rcases hu with h | h | h | h | h | h | h | h | h <;> rw [h] <;> rfl
theorem recs_at : ∀ (L : List Rc) (i j : Nat) (x : Value), i < L.length → (recC (L.getD i noRec))[j]? = some x → (recs L)[i * 9 + j]? = some x
  | r :: L, 0, j, x, _, h => by
    have hj : j < 9 := (List.getElem?_eq_some_iff.1 h).1
    unfold recs
    rw [List.flatMap_cons, Nat.zero_mul, Nat.zero_add, List.getElem?_append_left (by exact hj)]
    exact h
  | r :: L, i + 1, j, x, hi, h => by
    have := recs_at L i j x (by simpa using hi) (by simpa using h)
    unfold recs at this ⊢
    rw [List.flatMap_cons, List.getElem?_append_right (by show 9 ≤ _; omega)]
    show (List.flatMap recC L)[(i + 1) * 9 + j - 9]? = some x
    rw [show (i + 1) * 9 + j - 9 = i * 9 + j by omega]
    exact this
/-- A value that a call owns, of these records. -/
def OwnR (w : World) (B : Nat) (v : Value) (L : List Rc) : Prop := w.ownsRow B 50 9 v L.length (recs L)
theorem OwnR.nil (w : World) (B : Nat) : OwnR w B (.slice none 0 0) [] := World.ownsRow_nil w B _ _
theorem OwnR.lt {w : World} {B : Nat} {v : Value} {L : List Rc} (h : OwnR w B v L) : ∀ k, v.ownBlock = some k → B ≤ k ∧ k < w.heap.size := World.ownsRow.lt h
theorem OwnR.below {w w' : World} {B : Nat} {v : Value} {L : List Rc} (h : OwnR w B v L) (hb : Below w.heap.size w w') : OwnR w' B v L := by
  refine ⟨h.1, ?_⟩
  rcases h.2 with hn | ⟨g, cap, cur, hv, hB, hg, rest⟩
  · exact Or.inl hn
  · exact Or.inr ⟨g, cap, cur, hv, hB, (hb.block g (Array.getElem?_eq_some_iff.1 hg).1).trans hg, rest⟩
theorem OwnR.grow {B B2 : Nat} {w w' : World} {u v v' : Value} {L : List Rc} (h : OwnR w B2 u L) (ha : Apart u v) (k : Grow B v w v' w') : OwnR w' B2 u L ∧ Apart u v' := by
  refine ⟨World.ownsRow.kept h k.by_ ha, ?_⟩
  rcases k.blk with e | e
  · unfold Apart at ha ⊢; rw [e]; exact ha
  · unfold Apart; rw [e]
    cases hb : u.ownBlock with
    | none => exact Or.inl rfl
    | some g =>
      right
      intro h'
      have := (h.lt g hb).2
      injection h' with h'
      omega
/-- The cells of record i. -/
theorem OwnR.cells {w : World} {B : Nat} {v : Value} {L : List Rc} (h : OwnR w B v L) (hl : L ≠ []) : ∃ g cap, v = .slice (some ⟨g, 0, none⟩) L.length cap ∧ B ≤ g ∧ g < w.heap.size ∧ L.length ≤ cap ∧ cap ≤ 9223372036854775807 ∧ ∀ i, i < L.length → ∀ j x, (recC (L.getD i noRec))[j]? = some x → w.cell? ⟨g, i * 9 + j, none⟩ = some x := by
  have hp := List.length_pos_iff.2 hl
  rcases h.2 with ⟨_, h0⟩ | ⟨g, cap, cur, hv, hb, hg, hc, hm, hs, ht⟩
  · omega
  · refine ⟨g, cap, hv, hb, (Array.getElem?_eq_some_iff.1 hg).1, hc, hm, fun i hi j x hx => ?_⟩
    have hj : j < 9 := (List.getElem?_eq_some_iff.1 hx).1
    have e := recs_at L i j x hi hx
    rw [← ht, List.getElem?_take, if_pos (by omega)] at e
    rw [cell_of_row w g (i * 9 + j) cur _ (0, 0) hg]
    simpa using e
theorem infoR : (Try.prog.info? 50).map (fun i => (i.zero, i.size, i.bytes)) = some (some (recV noRec), 9, 72) := by kernel_rfl

/-! records written one behind the other -/
def encR : Int → List Rc → List Int
  | _, [] => []
  | last, r :: rs => wrB r last ++ encR r.i rs
def lastR : Int → List Rc → Int
  | last, [] => last
  | last, r :: rs => lastR r.i rs
def chainR : Int → List Rc → Prop
  | _, [] => True
  | last, r :: rs => r.ok ∧ wrE r last = 0 ∧ chainR r.i rs
theorem encR_snoc : ∀ (L : List Rc) (last : Int) (r : Rc), encR last (L ++ [r]) = encR last L ++ wrB r (lastR last L)
  | [], last, r => by simp [encR, lastR]
  | s :: L, last, r => by
    show wrB s last ++ encR s.i (L ++ [r]) = (wrB s last ++ encR s.i L) ++ wrB r (lastR s.i L)
    rw [encR_snoc L s.i r, List.append_assoc]
theorem lastR_snoc : ∀ (L : List Rc) (last : Int) (r : Rc), lastR last (L ++ [r]) = r.i
  | [], last, r => rfl
  | s :: L, last, r => lastR_snoc L s.i r
theorem chainR_snoc : ∀ (L : List Rc) (last : Int) (r : Rc), chainR last L → r.ok → wrE r (lastR last L) = 0 → chainR last (L ++ [r])
  | [], last, r, _, ok, h => ⟨ok, h, trivial⟩
  | s :: L, last, r, hc, ok, h => ⟨hc.1, hc.2.1, chainR_snoc L s.i r hc.2.2 ok h⟩
theorem chainR_ok : ∀ (L : List Rc) (last : Int), chainR last L → Bytes (encR last L) ∧ (encR last L).length ≤ 68 * L.length
  | [], _, _ => ⟨Bytes.nil, by simp [encR]⟩
  | s :: L, last, hc => by
    have h1 := chainR_ok L s.i hc.2.2
    have h2 := wr_len (last := last) hc.1
    refine ⟨(wr_ok hc.1).append h1.1, ?_⟩
    show (wrB s last ++ encR s.i L).length ≤ _
    rw [List.length_append, List.length_cons]
    omega
/-- One record off the row's rest. -/
theorem chain_read {last : Int} {r : Rc} {rs : List Rc} (h : chainR last (r :: rs)) (n : Int) :
    redT ⟨encR last (r :: rs), n, 0⟩ last = r ∧ redS ⟨encR last (r :: rs), n, 0⟩ last = ⟨encR r.i rs, n + (wrB r last).length, 0⟩ ∧ redE ⟨encR last (r :: rs), n, 0⟩ last = 0 :=
  wr_read h.1 h.2.1 (encR r.i rs) n
/-- Which records are kept, and their bytes. -/
def rowL (A : Nat → Rc) : Nat → List Rc
  | 0 => []
  | k + 1 => if wrE (A k) (lastR (-1) (rowL A k)) = 0 then rowL A k ++ [A k] else rowL A k
theorem row_ok (A : Nat → Rc) : ∀ n, (∀ i, i < n → (A i).ok) → chainR (-1) (rowL A n) ∧ (rowL A n).length ≤ n
  | 0, _ => ⟨trivial, by simp [rowL]⟩
  | k + 1, h => by
    have hk := row_ok A k (fun i hi => h i (by omega))
    unfold rowL
    split
    · rename_i he
      exact ⟨chainR_snoc _ _ _ hk.1 (h k (by omega)) he, by rw [List.length_append]; simp; omega⟩
    · exact ⟨hk.1, by omega⟩
end Go.Proofs.Ytlhfelelgkkblaa
