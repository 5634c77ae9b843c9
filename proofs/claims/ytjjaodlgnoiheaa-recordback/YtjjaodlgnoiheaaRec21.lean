/-
  Layer 8 (record): fewer of a record's bytes are too short (no function of the program in sight).
-/
import Derived.Test.YtjjaodlgnoiheaaRec19
namespace Go.Proofs.Ytjjaodlgnoiheaa
open Go.RowKit
set_option linter.unusedVariables false

/-- Of these bytes, cut anywhere: too short; whole: taken. -/
structure Cuts (F : St → St) (A : List Int) : Prop where
  stick : ∀ s, s.e ≠ 0 → F s = s
  short : ∀ rest i n, i < A.length → (F ⟨(A ++ rest).take i, n, 0⟩).e = 6
  long : ∀ rest i n, A.length ≤ i → F ⟨(A ++ rest).take i, n, 0⟩ = ⟨rest.take (i - A.length), n + A.length, 0⟩
theorem Cuts.nil : Cuts (fun s => s) [] := ⟨fun _ _ => rfl, fun _ _ _ h => by simp at h, fun rest i n _ => by simp⟩
theorem Cuts.comp {F G : St → St} {A B : List Int} (h : Cuts F A) (k : Cuts G B) : Cuts (fun s => G (F s)) (A ++ B) := by
  refine ⟨fun s hs => ?_, fun rest i n hi => ?_, fun rest i n hi => ?_⟩
  · show G (F s) = s
    rw [h.stick s hs, k.stick s hs]
  · show (G (F _)).e = 6
    rw [List.append_assoc]
    by_cases h1 : i < A.length
    · have e := h.short (B ++ rest) i n h1
      rw [k.stick _ (by rw [e]; omega)]
      exact e
    · rw [h.long (B ++ rest) i n (by omega)]
      rw [List.length_append] at hi
      exact k.short rest (i - A.length) _ (by omega)
  · show G (F _) = _
    rw [List.length_append] at hi
    rw [List.append_assoc, h.long (B ++ rest) i n (by omega), k.long rest (i - A.length) _ (by omega), List.length_append]
    rw [show i - A.length - B.length = i - (A.length + B.length) by omega]
    congr 1
    omega
theorem cuts_uint {x m : Int} (h0 : 0 ≤ x) (h1 : x ≤ m) (hm : m ≤ 18446744073709551615) : Cuts (uintS m) (put x) := by
  refine ⟨fun s hs => (uintS_e m hs).1, fun rest i n hi => ?_, fun rest i n hi => ?_⟩
  · rw [List.take_append_of_le_length (by omega)]
    have hE : uintE m ((put x).take i) = 6 := by
      unfold uintE
      by_cases hz : i = 0
      · subst hz; simp
      · have hne : (put x).take i ≠ [] := by
          intro h'
          have := congrArg List.length h'
          rw [List.length_take, List.length_nil] at this
          omega
        rw [if_neg hne, got_cut h0 (by omega) i (by omega) hi]
        simp
    unfold uintS
    simp only [if_true]
    rw [hE, if_neg (by omega)]
  · rw [List.take_append, List.take_of_length_le hi]
    exact (rd_uint h0 h1 hm _ n).2
theorem cuts_int {x : Int} (hx : S64 x) : Cuts intS (put (zig x)) := by
  have b := zig_bd hx
  exact cuts_uint b.1 b.2 (by unfold top64; omega)
theorem cuts_byte (b : Int) : Cuts byteS [b] := by
  refine ⟨fun s hs => (byteS_e hs).1, fun rest i n hi => ?_, fun rest i n hi => ?_⟩
  · have : i = 0 := by simpa using hi
    subst this
    simp [byteS]
  · rw [List.length_singleton] at hi ⊢
    obtain ⟨j, rfl⟩ : ∃ j, i = j + 1 := ⟨i - 1, by omega⟩
    simp [byteS]
theorem cuts_oth {x : Int} (F : St → St) (g : St → Int) (A : List Int) (h : Cuts F A) (hg : ∀ rest i n, A.length ≤ i → g ⟨(A ++ rest).take i, n, 0⟩ = x) (hx : x ≠ 0) (hs : ∀ s, s.e ≠ 0 → g s = 0) : Cuts (fun s => othS (g s) (F s)) A := by
  refine ⟨fun s he => ?_, fun rest i n hi => ?_, fun rest i n hi => ?_⟩
  · show othS (g s) (F s) = s
    rw [h.stick s he]
    unfold othS
    split
    · exact failS_e 7 he
    · rfl
  · show (othS _ _).e = 6
    have e := h.short rest i n hi
    unfold othS
    split
    · rw [failS_e 7 (by rw [e]; omega)]; exact e
    · exact e
  · show othS _ _ = _
    rw [hg rest i n hi]
    unfold othS
    rw [if_neg hx]
    exact h.long rest i n hi
theorem cuts_step {x : Int} (hx : S64 x) : Cuts (stepS (decide (x ≠ 0))) (if x = 0 then [] else put (zig x)) := by
  by_cases hz : x = 0
  · rw [if_pos hz, decide_eq_false (by simp [hz])]
    exact Cuts.nil
  · rw [if_neg hz, decide_eq_true hz]
    refine cuts_oth intS intA _ (cuts_int hx) (fun rest i n hi => ?_) hz (fun s hs => (intS_e hs).2)
    rw [List.take_append, List.take_of_length_le hi]
    exact (rd_int hx _ n).1
theorem cuts_ang {a : Int} (ha : 0 ≤ a ∧ a ≤ 65535) : Cuts (angS (decide (a ≠ 0))) (if a = 0 then [] else put a) := by
  by_cases hz : a = 0
  · rw [if_pos hz, decide_eq_false (by simp [hz])]
    exact Cuts.nil
  · rw [if_neg hz, decide_eq_true hz]
    refine cuts_oth (uintS 65535) (uintA 65535) _ (cuts_uint ha.1 ha.2 (by omega)) (fun rest i n hi => ?_) hz (fun s hs => (uintS_e _ hs).2)
    rw [List.take_append, List.take_of_length_le hi]
    exact (rd_uint ha.1 ha.2 (by omega) _ n).1
theorem cuts_dif (l : List Int) (h6 : l.length = 6) (a : Int) (hl : ∀ x ∈ l, S64 x) : ∀ k, k ≤ 6 → Cuts (fun s => difS (mask l + if a = 0 then 0 else 64) s k) (zn (l.take k))
  | 0, _ => by simpa [difS, zn] using Cuts.nil
  | k + 1, hk => by
    have h := cuts_dif l h6 a hl k (by omega)
    have e : ∀ s, difS (mask l + if a = 0 then 0 else 64) s (k + 1) = stepS (decide (l.getD k 0 ≠ 0)) (difS (mask l + if a = 0 then 0 else 64) s k) := fun s => by
      show stepS _ _ = _
      rw [bit_mask6 l h6 a k (by omega)]
    have hs := cuts_step (hl _ (getD_mem (l := l) (k := k) (by omega)))
    rw [zn_snoc l k (by omega), show (fun s => difS (mask l + if a = 0 then 0 else 64) s (k + 1)) = (fun s => stepS (decide (l.getD k 0 ≠ 0)) (difS (mask l + if a = 0 then 0 else 64) s k)) from funext e]
    exact h.comp hs
theorem maskR_ne {r : Rc} (hem : emptyB r = false) : maskR r ≠ 0 := by
  intro h0
  have hm := mask_bd (nums r)
  have ha : r.a = 0 := by
    unfold maskR at h0
    split at h0
    · assumption
    · omega
  have hm0 : mask (nums r) = 0 := by unfold maskR at h0; rw [ha] at h0; simpa using h0
  have hz : ∀ k, k < 6 → (nums r).getD k 0 = 0 := by
    intro k hk
    have := bit_mask (nums r) k hk
    rw [hm0] at this
    unfold bitB at this
    simpa using this.symm
  have : emptyB r = true := (emptyB_iff r).2 ⟨⟨hz 0 (by omega), hz 1 (by omega), hz 2 (by omega), hz 3 (by omega), hz 4 (by omega), hz 5 (by omega)⟩, ha⟩
  rw [this] at hem
  exact absurd hem (by simp)
/-- Behind an Update's kind. -/
theorem upd_short {r : Rc} (ok : r.ok) (hem : emptyB r = false) (rest : List Int) (i : Nat) (n : Int) (hi : i < (updB r).length) : (updS ⟨(updB r ++ rest).take i, n, 0⟩).e = 6 := by
  by_cases hz : i = 0
  · subst hz
    have e1 : byteA ⟨(updB r ++ rest).take 0, n, 0⟩ = 0 := by simp [byteA]
    have e2 : (byteS ⟨(updB r ++ rest).take 0, n, 0⟩).e = 6 := by simp [byteS]
    have e3 : mskS ⟨(updB r ++ rest).take 0, n, 0⟩ = byteS ⟨(updB r ++ rest).take 0, n, 0⟩ := by
      unfold mskS
      rw [failS_e 7 (by rw [e2]; omega)]
      split <;> rfl
    have ne : (mskS ⟨(updB r ++ rest).take 0, n, 0⟩).e ≠ 0 := by rw [e3, e2]; omega
    unfold updS
    rw [difS_e _ ne, (angS_e _ ne).1, e3, e2]
  · obtain ⟨j, rfl⟩ : ∃ j, i = j + 1 := ⟨i - 1, by omega⟩
    have hb := maskR_bd r
    have hnz : maskR r ≠ 0 := maskR_ne hem
    have hc : (updB r ++ rest).take (j + 1) = maskR r :: (restR r ++ rest).take j := by unfold updB; simp
    have eb := rd_byte (b := maskR r) ((restR r ++ rest).take j) n
    rw [hc]
    have e3 : mskS ⟨maskR r :: (restR r ++ rest).take j, n, 0⟩ = ⟨(restR r ++ rest).take j, n + 1, 0⟩ := by
      unfold mskS
      rw [eb.1, eb.2, if_neg (by unfold badM; simp; omega)]
    unfold updS
    rw [eb.1, e3]
    have c := (cuts_dif (nums r) rfl r.a ok.nums 6 (by omega)).comp (cuts_ang ok.a)
    rw [show (nums r).take 6 = nums r from rfl] at c
    have b6 := bit_six (nums r) rfl r.a
    have em : maskR r = mask (nums r) + if r.a = 0 then 0 else 64 := rfl
    rw [em, b6]
    have hlen : j < (restR r).length := by unfold updB at hi; rw [List.length_cons] at hi; omega
    exact c.short rest j (n + 1) hlen
theorem cuts_who {r : Rc} (ok : r.ok) : Cuts whoS (wholeB r) := by
  have v1 := ((cuts_int ok.p0).comp (cuts_int ok.p1)).comp (cuts_int ok.p2)
  have v2 := ((cuts_int ok.v0).comp (cuts_int ok.v1)).comp (cuts_int ok.v2)
  have c := (v1.comp v2).comp (cuts_uint (m := 65535) ok.a.1 ok.a.2 (by omega))
  have e : wholeB r = (((put (zig r.p0) ++ put (zig r.p1)) ++ put (zig r.p2)) ++ ((put (zig r.v0) ++ put (zig r.v1)) ++ put (zig r.v2))) ++ put r.a := by
    unfold wholeB nums; simp [zs]
  rw [e]
  exact c
theorem tak_stuck {s : St} {last : Int} (h65 : last ≠ 65535) (h : (hdS s last).e ≠ 0) (hk : hdK s last = 0) : takS s last = hdS s last := by
  unfold takS
  rw [if_neg h65, hk, if_neg (by omega), if_neg (by omega), if_neg (by omega)]
  have e1 := (intS_e h).1
  have ev : vecS (hdS s last) = hdS s last := by unfold vecS; rw [e1, e1, e1]
  unfold whoS
  rw [ev, ev, (uintS_e _ h).1]
/-- Fewer bytes than are written are too short. -/
theorem wr_short {r : Rc} {last : Int} (ok : r.ok) (h : wrE r last = 0) (i : Nat) (hi : i < (wrB r last).length) (n : Int) :
    redE ⟨(wrB r last).take i, n, 0⟩ last = 6 ∧ redT ⟨(wrB r last).take i, n, 0⟩ last = noRec := by
  obtain ⟨hc, hl, hii⟩ := wrE_ok h
  obtain ⟨kb, ib, k1, k2⟩ := chk_ok hc
  have eB : wrB r last = put (r.i - last - 1) ++ (r.k :: bodyB r) := by unfold wrB; rw [if_pos h]
  have LB : lastB last = true := by unfold lastB; rw [decide_eq_true hl]
  have cu := cuts_uint (x := r.i - last - 1) (m := 65534 - last) (by omega) (by omega) (by omega)
  have key : (takS ⟨(wrB r last).take i, n, 0⟩ last).e = 6 := by
    rw [eB] at hi ⊢
    rw [List.length_append, List.length_cons] at hi
    by_cases h1 : i < (put (r.i - last - 1)).length
    · have e := cu.short (r.k :: bodyB r) i n h1
      have ne : (uintS (65534 - last) ⟨(put (r.i - last - 1) ++ (r.k :: bodyB r)).take i, n, 0⟩).e ≠ 0 := by rw [e]; omega
      have eS : hdS ⟨(put (r.i - last - 1) ++ (r.k :: bodyB r)).take i, n, 0⟩ last = uintS (65534 - last) ⟨(put (r.i - last - 1) ++ (r.k :: bodyB r)).take i, n, 0⟩ := (byteS_e ne).1
      rw [tak_stuck (by omega) (by rw [eS]; exact ne) (byteS_e ne).2, eS, e]
    · have eU := cu.long (r.k :: bodyB r) i n (by omega)
      obtain ⟨j, hj⟩ : ∃ j, i - (put (r.i - last - 1)).length = j := ⟨_, rfl⟩
      rw [hj] at eU
      by_cases hz : j = 0
      · subst hz
        have eS : (hdS ⟨(put (r.i - last - 1) ++ (r.k :: bodyB r)).take i, n, 0⟩ last).e = 6 := by unfold hdS; rw [eU]; simp [byteS]
        have eK : hdK ⟨(put (r.i - last - 1) ++ (r.k :: bodyB r)).take i, n, 0⟩ last = 0 := by unfold hdK; rw [eU]; simp [byteA]
        rw [tak_stuck (by omega) (by rw [eS]; omega) eK, eS]
      · obtain ⟨q, rfl⟩ : ∃ q, j = q + 1 := ⟨j - 1, by omega⟩
        rw [List.take_succ_cons] at eU
        have eb := rd_byte (b := r.k) ((bodyB r).take q) (n + (put (r.i - last - 1)).length)
        have eS : hdS ⟨(put (r.i - last - 1) ++ (r.k :: bodyB r)).take i, n, 0⟩ last = ⟨(bodyB r).take q, n + (put (r.i - last - 1)).length + 1, 0⟩ := by unfold hdS; rw [eU, eb.2]
        have eK : hdK ⟨(put (r.i - last - 1) ++ (r.k :: bodyB r)).take i, n, 0⟩ last = r.k := by unfold hdK; rw [eU, eb.1]
        have hq : q < (bodyB r).length := by omega
        unfold takS
        rw [if_neg (by omega), eK, eS, if_neg (by omega)]
        by_cases g1 : r.k = 1
        · have e : bodyB r = updB r := by unfold bodyB; rw [if_pos g1]
          rw [if_pos g1]
          rw [e] at hq ⊢
          have := upd_short ok (k1 g1) [] q (n + (put (r.i - last - 1)).length + 1) hq
          rwa [List.append_nil] at this
        · rw [if_neg g1]
          by_cases g2 : r.k = 2
          · have e : bodyB r = [] := by unfold bodyB; rw [if_neg g1, if_pos g2]
            rw [e] at hq
            simp at hq
          · have e : bodyB r = wholeB r := by unfold bodyB; rw [if_neg g1, if_neg g2]
            rw [if_neg g2]
            rw [e] at hq ⊢
            have := (cuts_who ok).short [] q (n + (put (r.i - last - 1)).length + 1) hq
            rwa [List.append_nil] at this
  unfold redE redT
  rw [if_pos LB, if_pos LB, key, if_neg (by omega)]
  exact ⟨rfl, rfl⟩
end Go.Proofs.Ytjjaodlgnoiheaa
