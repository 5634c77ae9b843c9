/-
  Texts Gm8, Gm9, Gm10, Gm11, Gm12, Gm13, Gm14, Gm15, Gm16, Gm17, Dl1 in one.
-/
import Derived.Deep.RegionHeld3
import Derived.Deep.RegionLaw
import Derived.Deep.DeepCutAuto
import Derived.Deep.CutBlock
import Derived.Deep.DrawnRows
import Derived.Deep.RegionHeldLaw
import Derived.Test.YtpamjalgcloehaaGreatP14
namespace Go.Proofs.YtpamjalgcloehaaGreat
open Go.RowKit
set_option linter.unusedVariables false

def sameS (c : Int) (s : St) : St := if byteA s = c then byteS s else failS (byteS s) 7
def timS (s : St) : St := if timB (intA s) = true then intS s else failS (intS s) 3
theorem lastB_of {x : Int} (h0 : -1 ≤ x) (h1 : x ≤ 65535) : lastB x = true := by unfold lastB; simp; omega
theorem red_e {s : St} {last : Int} (h : lastB last = true) : redE s last = (redS s last).e := by unfold redE redS; rw [if_pos h, if_pos h]
theorem uintA_le {m : Int} (h : 0 ≤ m) (s : St) : uintA m s ≤ m := by
  unfold uintA
  by_cases h0 : s.e = 0
  · rw [if_pos h0]
    by_cases h1 : uintE m s.l = 0
    · rw [if_pos h1]
      unfold uintE at h1
      split at h1
      · omega
      · split at h1
        · split at h1 <;> omega
        · omega
    · rw [if_neg h1]; exact h
  · rw [if_neg h0]; exact h

/-! records, one behind the other: how the reader stands, and those that were read -/
def rowS (s : St) : Nat → St × List Rc
  | 0 => (s, [])
  | k + 1 => if (rowS s k).1.e = 0 then (redS (rowS s k).1 (lastR (-1) (rowS s k).2), if redE (rowS s k).1 (lastR (-1) (rowS s k).2) = 0 then (rowS s k).2 ++ [redT (rowS s k).1 (lastR (-1) (rowS s k).2)] else (rowS s k).2) else rowS s k
theorem rowS_no {s : St} {k : Nat} (h : (rowS s k).1.e ≠ 0) : rowS s (k + 1) = rowS s k := by
  show (if _ then _ else _) = _
  rw [if_neg h]
theorem rowS_stuck {s : St} {k : Nat} (h : (rowS s k).1.e ≠ 0) : ∀ j, rowS s (k + j) = rowS s k
  | 0 => rfl
  | j + 1 => by
    have ih := rowS_stuck h j
    rw [← Nat.add_assoc, rowS_no (by rw [ih]; exact h), ih]
theorem rowS_one {s : St} {k : Nat} (h : (rowS s k).1.e = 0) : rowS s (k + 1) = (redS (rowS s k).1 (lastR (-1) (rowS s k).2), if redE (rowS s k).1 (lastR (-1) (rowS s k).2) = 0 then (rowS s k).2 ++ [redT (rowS s k).1 (lastR (-1) (rowS s k).2)] else (rowS s k).2) := by
  show (if _ then _ else _) = _
  rw [if_pos h]
theorem rowS_ok {s : St} (hb : Bytes s.l) : ∀ k, chainR (-1) (rowS s k).2 ∧ (rowS s k).2.length ≤ k ∧ ((rowS s k).1.e = 0 → (rowS s k).2.length = k ∧ Tk s (rowS s k).1 (encR (-1) (rowS s k).2))
  | 0 => ⟨trivial, Nat.le_refl _, fun h => ⟨rfl, Tk.refl h⟩⟩
  | k + 1 => by
    obtain ⟨h1, h2, h3⟩ := rowS_ok hb k
    by_cases he : (rowS s k).1.e = 0
    · rw [rowS_one he]
      obtain ⟨h4, h5⟩ := h3 he
      have lb := lastR_bd _ _ h1 (by omega) (by omega)
      by_cases hr : redE (rowS s k).1 (lastR (-1) (rowS s k).2) = 0
      · rw [if_pos hr]
        obtain ⟨o1, o2, o3⟩ := one_read (h5.bytes hb) hr
        refine ⟨chainR_snoc _ _ _ h1 o1 o2, by rw [List.length_append]; simp; omega, fun _ => ⟨by rw [List.length_append]; simp; omega, ?_⟩⟩
        simp only
        rw [encR_snoc]
        exact h5.trans o3
      · rw [if_neg hr]
        refine ⟨h1, by simp only; omega, fun h => absurd h ?_⟩
        simp only
        rw [← red_e (lastB_of lb.1 lb.2)]
        exact hr
    · rw [rowS_no he]
      exact ⟨h1, by omega, fun h => absurd h he⟩

/-! the whole -/
def rA (l : List Int) : St := sameS 1 (sameS 71 ⟨l, 0, 0⟩)
def rT (l : List Int) : Int := uintA 4294967295 (rA l)
def rB (l : List Int) : St := uintS 4294967295 (rA l)
def rM (l : List Int) : Int := intA (rB l)
def rC (l : List Int) : St := timS (rB l)
def rG (l : List Int) : Int := uintA (rT l) (rC l)
def rD (l : List Int) : St := uintS (rT l) (rC l)
def rP (l : List Int) : Int := if 0 < rG l then rT l - rG l else -1
def rN (l : List Int) : Int := uintA 128 (rD l)
def rQ (l : List Int) : St := uintS 128 (rD l)
def rF (l : List Int) : St × List Rc := rowS (rQ l) (rN l).toNat
def opE (l : List Int) : Int := doneA (rF l).1
def rgE (b : List Int) : Int := if 4096 < b.length then 8 else if openB b = true then opE (opened b) else 9
def rgG (b : List Int) : Gm := if rgE b = 0 then ⟨rT (opened b), rM (opened b), rP (opened b)⟩ else ⟨0, 0, 0⟩
def rgL (b : List Int) : List Rc := if rgE b = 0 then (rF (opened b)).2 else []
theorem rT_bd (l : List Int) : 0 ≤ rT l ∧ rT l ≤ 4294967295 := ⟨(uintA_bd _ _).1, uintA_le (by omega) _⟩
theorem rG_bd (l : List Int) : 0 ≤ rG l ∧ rG l ≤ rT l := ⟨(uintA_bd _ _).1, uintA_le (rT_bd l).1 _⟩
theorem rN_bd (l : List Int) : 0 ≤ rN l ∧ rN l ≤ 128 := ⟨(uintA_bd _ _).1, uintA_le (by omega) _⟩

theorem took_same {c : Int} {s : St} (hb : Bytes s.l) (h : (sameS c s).e = 0) : Tk s (sameS c s) [c] := by
  unfold sameS at h ⊢
  split at h
  · rename_i hc
    rw [if_pos hc]
    have t := took_byte hb h
    rw [hc] at t
    exact t
  · exact absurd h (fail_ne (by omega))
theorem stuck_same {c : Int} {s : St} (h : (sameS c s).e = 0) : s.e = 0 := by
  unfold sameS at h
  split at h
  · exact stuck_byte h
  · exact absurd h (fail_ne (by omega))
theorem took_tim {s : St} (hb : Bytes s.l) (h : (timS s).e = 0) : Tk s (timS s) (put (zig (intA s))) ∧ timB (intA s) = true := by
  unfold timS at h ⊢
  split at h
  · rename_i hc
    rw [if_pos hc]
    exact ⟨(took_int hb h).1, hc⟩
  · exact absurd h (fail_ne (by omega))
theorem done_ok {s : St} (h : doneA s = 0) : s.e = 0 ∧ s.l = [] := by
  unfold doneA at h
  split at h
  · rename_i he
    split at h
    · rename_i hl
      exact ⟨he, hl⟩
    · omega
  · rename_i he
    exact absurd h he

/-- A datagram that is read is written as those bytes. -/
theorem op_one {l : List Int} (hb : Bytes l) (h : opE l = 0) :
    l = hedB ⟨rT l, rM l, rP l⟩ (rF l).2.length ++ encR (-1) (rF l).2 ∧ hedE ⟨rT l, rM l, rP l⟩ (rF l).2.length = 0 ∧ chainR (-1) (rF l).2 := by
  obtain ⟨h1, h2⟩ := done_ok h
  have eF : rF l = rowS (rQ l) (rN l).toNat := rfl
  have nb := rN_bd l
  have tb := rT_bd l
  have gb := rG_bd l
  have key : ∃ (a : Tk (⟨l, 0, 0⟩ : St) (rQ l) ([71] ++ [1] ++ put (rT l) ++ put (zig (rM l)) ++ put (rG l) ++ put (rN l))), timB (rM l) = true := by
    -- from the end to the front, that nothing had failed
    have stuckRow : ∀ k, (rowS (rQ l) k).1.e = 0 → (rQ l).e = 0 := by
      intro k hk
      by_cases he : (rQ l).e = 0
      · exact he
      · have := rowS_stuck (s := rQ l) (k := 0) he k
        rw [Nat.zero_add] at this
        rw [this] at hk
        exact hk
    have hQ : (rQ l).e = 0 := stuckRow _ (by rw [← eF]; exact h1)
    have hD : (rD l).e = 0 := stuck_uint hQ
    have hC : (rC l).e = 0 := stuck_uint hD
    have hB : (rB l).e = 0 := by
      have hC' := hC
      unfold rC timS at hC'
      split at hC'
      · exact stuck_int hC'
      · exact absurd hC' (fail_ne (by omega))
    have hA : (rA l).e = 0 := stuck_uint hB
    have hA1 : (sameS 71 (⟨l, 0, 0⟩ : St)).e = 0 := stuck_same (c := 1) hA
    have t1 := took_same (c := 71) (s := ⟨l, 0, 0⟩) hb hA1
    have t2 : Tk _ (rA l) _ := took_same (t1.bytes hb) hA
    have t12 := t1.trans t2
    have t3 : Tk _ (rB l) _ := took_uint (t12.bytes hb) hB
    have t13 := t12.trans t3
    have t4 := took_tim (t13.bytes hb) hC
    have t14 : Tk _ (rC l) _ := t13.trans t4.1
    have t5 : Tk _ (rD l) _ := took_uint (t14.bytes hb) hD
    have t15 := t14.trans t5
    have t6 : Tk _ (rQ l) _ := took_uint (t15.bytes hb) hQ
    exact ⟨t15.trans t6, t4.2⟩
  obtain ⟨t, tm⟩ := key
  have ro := rowS_ok (t.bytes hb) (rN l).toNat
  rw [← eF] at ro
  obtain ⟨c1, c2, c3⟩ := ro
  obtain ⟨c4, c5⟩ := c3 h1
  have w := (t.trans c5).l
  rw [h2, List.append_nil] at w
  have eb : bkI ⟨rT l, rM l, rP l⟩ = rG l := by
    unfold bkI rP
    simp only
    split
    · split at * <;> omega
    · split at * <;> omega
  have en : ((rF l).2.length : Int) = rN l := by rw [c4]; omega
  refine ⟨?_, ?_, c1⟩
  · simp only at w
    unfold hedB
    rw [eb, en]
    exact w
  · unfold hedE
    simp only
    rw [tm]
    rw [if_neg (by unfold rP; split <;> simp <;> omega), if_neg (by unfold rP; split <;> omega), if_neg (by omega)]

/-! the other way about -/
theorem rowS_fwd (L : List Rc) (hc : chainR (-1) L) (rest : List Int) (m : Int) : ∀ k, k ≤ L.length → ∃ m', rowS ⟨encR (-1) L ++ rest, m, 0⟩ k = (⟨encR (lastR (-1) (L.take k)) (L.drop k) ++ rest, m', 0⟩, L.take k)
  | 0, _ => ⟨m, by simp [rowS, lastR]⟩
  | k + 1, h => by
    obtain ⟨m', e⟩ := rowS_fwd L hc rest m k (by omega)
    rw [rowS_one (by rw [e]), e]
    have d := drop_cons (L := L) (j := k) (by omega)
    have cd := chainR_drop L (-1) k hc
    have tk : L.take (k + 1) = L.take k ++ [L.getD k noRec] := by
      rw [List.take_add_one]
      congr 1
      have : k < L.length := by omega
      simp [List.getD, List.getElem?_eq_getElem this]
    have lt := lastR_take L (-1) k (by omega)
    rw [d] at cd
    obtain ⟨o1, o2, o3⟩ := cd
    have w := wr_read o1 o2 (encR (L.getD k noRec).i (L.drop (k + 1)) ++ rest) m'
    have eb : encR (lastR (-1) (L.take k)) (L.drop k) ++ rest = wrB (L.getD k noRec) (lastR (-1) (L.take k)) ++ (encR (L.getD k noRec).i (L.drop (k + 1)) ++ rest) := by
      rw [d, ← List.append_assoc]
      rfl
    simp only
    rw [eb, w.1, w.2.1, w.2.2, if_pos rfl, ← tk, lt]
    exact ⟨_, rfl⟩
theorem same_ok (c : Int) (r : List Int) (n : Int) : sameS c ⟨c :: r, n, 0⟩ = ⟨r, n + 1, 0⟩ := by
  have b := rd_byte (b := c) r n
  unfold sameS
  rw [if_pos b.1, b.2]
theorem op_fwd {g : Gm} {L : List Rc} (h : hedE g L.length = 0) (hc : chainR (-1) L) (rest : List Int) :
    ∃ m', rF (hedB g L.length ++ encR (-1) L ++ rest) = (⟨rest, m', 0⟩, L) ∧ rT (hedB g L.length ++ encR (-1) L ++ rest) = g.t ∧ rM (hedB g L.length ++ encR (-1) L ++ rest) = g.m ∧ rP (hedB g L.length ++ encR (-1) L ++ rest) = g.b := by
  have ho := hed_ok h
  have bk := bk_bd h
  obtain ⟨l, hl⟩ : ∃ l, hedB g L.length ++ encR (-1) L ++ rest = l := ⟨_, rfl⟩
  have e : l = 71 :: (1 :: (put g.t ++ (put (zig g.m) ++ (put (bkI g) ++ (put (L.length : Int) ++ (encR (-1) L ++ rest)))))) := by
    rw [← hl]; unfold hedB; simp
  rw [hl]
  have eA : ∃ n, rA l = ⟨put g.t ++ (put (zig g.m) ++ (put (bkI g) ++ (put (L.length : Int) ++ (encR (-1) L ++ rest)))), n, 0⟩ := by
    unfold rA
    rw [e, same_ok, same_ok]
    exact ⟨_, rfl⟩
  obtain ⟨n1, eA⟩ := eA
  have u1 := rd_uint (x := g.t) (m := 4294967295) (by omega) (by omega) (by omega) (put (zig g.m) ++ (put (bkI g) ++ (put (L.length : Int) ++ (encR (-1) L ++ rest)))) n1
  have eT : rT l = g.t := by unfold rT; rw [eA]; exact u1.1
  have eB : rB l = ⟨put (zig g.m) ++ (put (bkI g) ++ (put (L.length : Int) ++ (encR (-1) L ++ rest))), n1 + (put g.t).length, 0⟩ := by unfold rB; rw [eA]; exact u1.2
  have u2 := rd_int (x := g.m) (by unfold S64; omega) (put (bkI g) ++ (put (L.length : Int) ++ (encR (-1) L ++ rest))) (n1 + (put g.t).length)
  have eM : rM l = g.m := by unfold rM; rw [eB]; exact u2.1
  have eC : rC l = ⟨put (bkI g) ++ (put (L.length : Int) ++ (encR (-1) L ++ rest)), n1 + (put g.t).length + (put (zig g.m)).length, 0⟩ := by
    unfold rC timS
    rw [eB, if_pos (by rw [u2.1]; unfold timB; simp; omega)]
    exact u2.2
  have u3 := rd_uint (x := bkI g) (m := g.t) (by omega) (by omega) (by omega) (put (L.length : Int) ++ (encR (-1) L ++ rest)) (n1 + (put g.t).length + (put (zig g.m)).length)
  have eG : rG l = bkI g := by unfold rG; rw [eC, eT]; exact u3.1
  have eD : rD l = ⟨put (L.length : Int) ++ (encR (-1) L ++ rest), n1 + (put g.t).length + (put (zig g.m)).length + (put (bkI g)).length, 0⟩ := by unfold rD; rw [eC, eT]; exact u3.2
  have u4 := rd_uint (x := (L.length : Int)) (m := 128) (by omega) (by omega) (by omega) (encR (-1) L ++ rest) (n1 + (put g.t).length + (put (zig g.m)).length + (put (bkI g)).length)
  have eN : rN l = L.length := by unfold rN; rw [eD]; exact u4.1
  have eQ : rQ l = ⟨encR (-1) L ++ rest, n1 + (put g.t).length + (put (zig g.m)).length + (put (bkI g)).length + (put (L.length : Int)).length, 0⟩ := by unfold rQ; rw [eD]; exact u4.2
  obtain ⟨m', f⟩ := rowS_fwd L hc rest (n1 + (put g.t).length + (put (zig g.m)).length + (put (bkI g)).length + (put (L.length : Int)).length) L.length (Nat.le_refl _)
  refine ⟨m', ?_, eT, eM, ?_⟩
  · unfold rF
    rw [eN, Int.toNat_natCast, eQ, f]
    simp [encR]
  · unfold rP
    rw [eG, eT]
    unfold bkI
    split <;> split <;> omega
/-- What is written is read. -/
theorem op_back {g : Gm} {L : List Rc} (h : hedE g L.length = 0) (hc : chainR (-1) L) : opE (hedB g L.length ++ encR (-1) L) = 0 ∧ rT (hedB g L.length ++ encR (-1) L) = g.t ∧ rM (hedB g L.length ++ encR (-1) L) = g.m ∧ rP (hedB g L.length ++ encR (-1) L) = g.b ∧ (rF (hedB g L.length ++ encR (-1) L)).2 = L := by
  obtain ⟨m', e1, e2, e3, e4⟩ := op_fwd h hc []
  rw [List.append_nil] at e1 e2 e3 e4
  refine ⟨?_, e2, e3, e4, by rw [e1]⟩
  unfold opE
  rw [e1]
  rfl
/-- Bytes with one less, or one more, are not read. -/
theorem op_less {l : List Int} {c : Int} (hb : Bytes l) (h : opE l = 0) : opE (l ++ [c]) = 8 := by
  obtain ⟨e, h1, h2⟩ := op_one hb h
  obtain ⟨m', f, _⟩ := op_fwd h1 h2 [c]
  rw [← e] at f
  unfold opE
  rw [f]
  rfl
/-- A reader that has failed at the first byte. -/
theorem op_stuck {l : List Int} (h : (sameS 71 (⟨l, 0, 0⟩ : St)).e ≠ 0) : opE l = (sameS 71 (⟨l, 0, 0⟩ : St)).e := by
  obtain ⟨s, hs⟩ : ∃ s, sameS 71 (⟨l, 0, 0⟩ : St) = s := ⟨_, rfl⟩
  rw [hs] at h ⊢
  have eA : rA l = s := by unfold rA; rw [hs]; unfold sameS; rw [(byteS_e h).1, failS_e _ h]; split <;> rfl
  have eB : rB l = s := by unfold rB; rw [eA]; exact (uintS_e _ h).1
  have eC : rC l = s := by unfold rC timS; rw [eB, (intS_e h).1, failS_e _ h]; split <;> rfl
  have eD : rD l = s := by unfold rD; rw [eC]; exact (uintS_e _ h).1
  have eQ : rQ l = s := by unfold rQ; rw [eD]; exact (uintS_e _ h).1
  have eF := rowS_stuck (s := s) (k := 0) h (rN l).toNat
  rw [Nat.zero_add] at eF
  unfold opE rF
  rw [eQ, eF]
  show doneA s = s.e
  unfold doneA
  rw [if_neg h]
theorem rgE_zero {b : List Int} (h : rgE b = 0) : b.length ≤ 4096 ∧ openB b = true ∧ opE (opened b) = 0 := by
  unfold rgE at h
  split at h
  · omega
  · split at h
    · rename_i h1 h2
      exact ⟨by omega, h2, h⟩
    · omega
theorem zeros_no (n : Nat) : rgE (List.replicate n 0) = if 4096 < n then 8 else rgE (List.replicate n 0) := by
  split
  · unfold rgE
    rw [if_pos (by simpa using ‹4096 < n›)]
  · rfl
theorem zeros_e {n : Nat} (h : n ≤ 4096) : rgE (List.replicate n 0) = 9 ∨ rgE (List.replicate n 0) = 6 ∨ rgE (List.replicate n 0) = 7 := by
  unfold rgE
  rw [if_neg (by simpa using h)]
  split
  · rename_i ho
    right
    have hlen : 4 ≤ n := by
      unfold openB at ho
      simp at ho
      exact ho.1
    have eo : opened (List.replicate n 0) = List.replicate (n - 4) 0 := by
      rw [opened_yes (m := n - 4) (by simp; omega) ho]
      simp
    rw [eo]
    have hs : (sameS 71 (⟨List.replicate (n - 4) 0, 0, 0⟩ : St)).e = 6 ∨ (sameS 71 (⟨List.replicate (n - 4) 0, 0, 0⟩ : St)).e = 7 := by
      unfold sameS byteA byteS failS
      cases hn : n - 4 with
      | zero => left; simp
      | succ k => right; simp [List.replicate_succ]
    rw [op_stuck (by omega)]
    exact hs
  · exact Or.inl rfl
theorem pre_getD (L : List Rc) : pre (fun i => L.getD i noRec) L.length = L := by
  apply List.ext_getElem
  · rw [pre_len]
  · intro i h1 h2
    unfold pre
    simp [List.getD, h2]
end Go.Proofs.YtpamjalgcloehaaGreat

namespace Go.Proofs.YtpamjalgcloehaaGreat
open Go.RowKit
set_option linter.unusedVariables false
set_option maxRecDepth 8000

end Go.Proofs.YtpamjalgcloehaaGreat

namespace Go.Proofs.YtpamjalgcloehaaGreat
open Go.RowKit
set_option linter.unusedVariables false
set_option maxRecDepth 8000

theorem OwnR.chUp {R B : Nat} {w w' : World} {v : Value} {L : List Rc} (h : OwnR w B v L) (k : Ch R w w') (hB : R < B) : OwnR w' B v L := by
  refine ⟨h.1, ?_⟩
  rcases h.2 with hn | ⟨g, cap, cur, hv, hB', hg, rest⟩
  · exact Or.inl hn
  · exact Or.inr ⟨g, cap, cur, hv, hB', (k.block (by omega) (Array.getElem?_eq_some_iff.1 hg).1).trans hg, rest⟩
theorem OwnR.mono {w : World} {B B' : Nat} {v : Value} {L : List Rc} (h : OwnR w B v L) (hB : B' ≤ B) : OwnR w B' v L := by
  refine ⟨h.1, ?_⟩
  rcases h.2 with hn | ⟨g, cap, cur, hv, hB', rest⟩
  · exact Or.inl hn
  · exact Or.inr ⟨g, cap, cur, hv, Nat.le_trans hB hB', rest⟩
theorem OwnR.drew {w : World} {B : Nat} {v : Value} {L : List Rc} (h : OwnR w B v L) : OwnR w.drew B v L := h

end Go.Proofs.YtpamjalgcloehaaGreat

namespace Go.Proofs.YtpamjalgcloehaaGreat
open Go.RowKit
set_option linter.unusedVariables false
set_option maxRecDepth 20000

theorem uint_zero {m : Int} {s : St} (h : (uintS m s).e ≠ 0) : uintA m s = 0 := by
  unfold uintS at h
  unfold uintA
  by_cases h0 : s.e = 0
  · rw [if_pos h0] at h ⊢
    by_cases h1 : uintE m s.l = 0
    · rw [if_pos h1] at h; exact absurd rfl h
    · rw [if_neg h1]
  · rw [if_neg h0]
theorem size_fn (w : World) : (sizeOf 1).run Tryz.prog w = .ok 1 w := by
  have h : (Tryz.prog.info? 1).map (fun i => i.size) = some 1 := by kernel_rfl
  cases hq : Tryz.prog.info? 1 with
  | none => simp [hq] at h
  | some i => simp [hq] at h; simp [sizeOf, typeInfo, hq, h]
theorem Blk.four {w : World} {b : Nat} {c0 c1 c2 c3 x0 x1 x2 x3 : Value} (h : Blk w b [c0, c1, c2, c3]) : Blk ((((w.setCell ⟨b, 0, none⟩ x0).setCell ⟨b, 1, none⟩ x1).setCell ⟨b, 2, none⟩ x2).setCell ⟨b, 3, none⟩ x3) b [x0, x1, x2, x3] :=
  (((h.set 0 x0 (by simp)).set 1 x1 (by simp)).set 2 x2 (by simp)).set 3 x3 (by simp)
theorem below_four {B : Nat} {a w : World} {b : Nat} {x0 x1 x2 x3 : Value} (h : Below B a w) (hb : B ≤ b) : Below B a ((((w.setCell ⟨b, 0, none⟩ x0).setCell ⟨b, 1, none⟩ x1).setCell ⟨b, 2, none⟩ x2).setCell ⟨b, 3, none⟩ x3) :=
  (((h.setCell (p := ⟨b, 0, none⟩) hb _).setCell (p := ⟨b, 1, none⟩) hb _).setCell (p := ⟨b, 2, none⟩) hb _).setCell (p := ⟨b, 3, none⟩) hb _
theorem ownR_four {B : Nat} {w : World} {b : Nat} {x0 x1 x2 x3 v : Value} {L : List Rc} (h : OwnR w B v L) (hb : b < B) : OwnR ((((w.setCell ⟨b, 0, none⟩ x0).setCell ⟨b, 1, none⟩ x1).setCell ⟨b, 2, none⟩ x2).setCell ⟨b, 3, none⟩ x3) B v L :=
  h.chUp (((((Ch.refl b w).set 0 _).set 1 _).set 2 _).set 3 _) hb

end Go.Proofs.YtpamjalgcloehaaGreat

namespace Go.Proofs.YtpamjalgcloehaaGreat
open Go.RowKit
set_option linter.unusedVariables false

theorem chain_mem : ∀ (L : List Rc) (last : Int), chainR last L → ∀ r ∈ L, r.ok
  | [], _, _, r, h => absurd h (by simp)
  | x :: L, last, ⟨h1, _, h3⟩, r, h => by
    rcases List.mem_cons.1 h with e | e
    · rw [e]; exact h1
    · exact chain_mem L x.i h3 r e
theorem chain_at {L : List Rc} {last : Int} (h : chainR last L) : ∀ i, i < L.length → (L.getD i noRec).ok := by
  intro i hi
  refine chain_mem L last h _ ?_
  have : L.getD i noRec = L[i] := by simp [List.getD, hi]
  rw [this]
  exact List.getElem_mem hi
theorem op_opened {x : List Int} (h : openB x = true) : 4 ≤ x.length ∧ (opened x).length + 4 = x.length ∧ sealed (opened x) = x := by
  have h4 : 4 ≤ x.length := by
    by_cases hf : x.length < 4
    · rw [open_few hf] at h; exact absurd h (by simp)
    · omega
  have e := opened_yes (m := x.length - 4) (by omega) h
  refine ⟨h4, by rw [e, List.length_take]; omega, ?_⟩
  rw [e]
  exact (open_app (by omega)).1 h
/-- A datagram that is read may be, and is written as those bytes. -/
theorem one_gram {x : List Int} (hb : Bytes x) (h : rgE x = 0) :
    (rgG x).ok ∧ (∀ i, i < (rgL x).length → ((rgL x).getD i noRec).ok) ∧ gmE (rgG x) (fun i => (rgL x).getD i noRec) (rgL x).length = 0 ∧ wrtE (rgG x) (fun i => (rgL x).getD i noRec) (rgL x).length = 0 ∧ wrtB (rgG x) (fun i => (rgL x).getD i noRec) (rgL x).length = x := by
  obtain ⟨h1, h2, h3⟩ := rgE_zero h
  have eG : rgG x = ⟨rT (opened x), rM (opened x), rP (opened x)⟩ := by unfold rgG; rw [if_pos h]
  have eL : rgL x = (rF (opened x)).2 := by unfold rgL; rw [if_pos h]
  have hbo : Bytes (opened x) := by unfold opened; rw [if_pos h2]; exact hb.take _
  obtain ⟨o1, o2, o3⟩ := op_opened h2
  obtain ⟨e1, e2, e3⟩ := op_one hbo h3
  rw [← eG, ← eL] at e1 e2
  rw [← eL] at e3
  have ho := hed_ok e2
  have gb : gmB (rgG x) (fun i => (rgL x).getD i noRec) (rgL x).length = opened x := by
    unfold gmB
    rw [pre_getD]
    exact e1.symm
  have ge : gmE (rgG x) (fun i => (rgL x).getD i noRec) (rgL x).length = 0 := by
    unfold gmE
    rw [if_pos e2, pre_getD]
    exact fir_chain _ _ e3
  have we : wrtE (rgG x) (fun i => (rgL x).getD i noRec) (rgL x).length = 0 := by
    unfold wrtE
    rw [if_pos ge, gb, if_neg (by omega)]
  refine ⟨⟨by unfold S64; omega, by unfold S64; omega, by unfold S64; omega⟩, chain_at e3, ge, we, ?_⟩
  unfold wrtB
  rw [if_pos we, gb, o3]
/-- What is written is read. -/
theorem back_gram {g : Gm} {A : Nat → Rc} {n : Nat} (ok : ∀ i, i < n → (A i).ok) (h : wrtE g A n = 0) :
    rgE (wrtB g A n) = 0 ∧ rgG (wrtB g A n) = g ∧ rgL (wrtB g A n) = pre A n ∧ (wrtB g A n).length = (gmB g A n).length + 4 ∧ wrtB g A n = sealed (gmB g A n) ∧ 6 ≤ (gmB g A n).length := by
  obtain ⟨h1, h2⟩ := wrt_ok h
  have h3 := gm_head h1
  have hc := gm_chain ok h1
  have e : wrtB g A n = sealed (gmB g A n) := by unfold wrtB; rw [if_pos h]
  have eo : opened (wrtB g A n) = gmB g A n := by rw [e]; exact sealed_opened _
  have ob : openB (wrtB g A n) = true := by rw [e]; exact sealed_open _
  have el : (wrtB g A n).length = (gmB g A n).length + 4 := by rw [e]; exact sealed_len _
  have hL : (pre A n).length = n := pre_len A n
  have b := op_back (g := g) (L := pre A n) (by rw [hL]; exact h3) hc
  rw [hL] at b
  have eg : hedB g n ++ encR (-1) (pre A n) = gmB g A n := rfl
  rw [eg] at b
  obtain ⟨b1, b2, b3, b4, b5⟩ := b
  have re : rgE (wrtB g A n) = 0 := by
    unfold rgE
    rw [if_neg (by omega), if_pos ob, eo]
    exact b1
  refine ⟨re, ?_, ?_, el, e, ?_⟩
  · unfold rgG
    rw [if_pos re, eo, b2, b3, b4]
  · unfold rgL
    rw [if_pos re, eo, b5]
  · have p1 := put_pos g.t
    have p2 := put_pos (zig g.m)
    have p3 := put_pos (bkI g)
    have p4 := put_pos (n : Int)
    unfold gmB hedB
    simp only [List.length_append, List.length_cons, List.length_nil]
    omega
/-- Without its last byte it isn't. -/
theorem cut_gram {g : Gm} {A : Nat → Rc} {n : Nat} (ok : ∀ i, i < n → (A i).ok) (h : wrtE g A n = 0) : rgE ((wrtB g A n).take ((wrtB g A n).length - 1)) ≠ 0 := by
  intro hz
  obtain ⟨b1, _, _, el, es, e6⟩ := back_gram ok h
  obtain ⟨h1, h2⟩ := wrt_ok h
  have hb := (gmB_ok ok h1).1
  obtain ⟨z1, z2, z3⟩ := rgE_zero hz
  obtain ⟨y1, y2, y3⟩ := rgE_zero b1
  have eo : opened (wrtB g A n) = gmB g A n := by rw [es]; exact sealed_opened _
  rw [eo] at y3
  obtain ⟨M, hM⟩ : ∃ M, (gmB g A n).length = M + 1 := ⟨(gmB g A n).length - 1, by omega⟩
  have lt : ((wrtB g A n).take ((wrtB g A n).length - 1)).length = M + 4 := by rw [List.length_take]; omega
  have ec : opened ((wrtB g A n).take ((wrtB g A n).length - 1)) = (gmB g A n).take M := by
    rw [opened_yes lt z2, List.take_take, es]
    unfold sealed
    rw [List.take_append_of_le_length (by rw [List.length_append] ; simp [four] at * ; omega)]
    congr 1
    rw [List.length_append]
    simp [four]
    omega
  rw [ec] at z3
  have split : gmB g A n = (gmB g A n).take M ++ [(gmB g A n).getD M 0] := by
    have := own_split (gmB g A n) M (by omega)
    have d : (gmB g A n).drop (M + 1) = [] := List.drop_eq_nil_of_le (by omega)
    rw [d] at this
    exact this
  have := op_less (c := (gmB g A n).getD M 0) (hb.take M) z3
  rw [← split, y3] at this
  omega
/-- With a byte turned it isn't opened. -/
theorem turned_gram {g : Gm} {A : Nat → Rc} {n : Nat} (ok : ∀ i, i < n → (A i).ok) (h : wrtE g A n = 0) {j : Nat} (hj : j < (wrtB g A n).length) {x : Int} (hx : 0 ≤ x ∧ x ≤ 255) (hne : x ≠ (wrtB g A n).getD j 0) : rgE ((wrtB g A n).set j x) = 9 := by
  obtain ⟨b1, _, _, el, es, e6⟩ := back_gram ok h
  obtain ⟨h1, h2⟩ := wrt_ok h
  have hb := (gmB_ok ok h1).1
  have t := turned_no hb (j := j) (by omega) hx (by rw [← es]; exact hne)
  unfold rgE
  rw [if_neg (by rw [List.length_set]; omega), es, t]
  simp
end Go.Proofs.YtpamjalgcloehaaGreat

namespace Go.Proofs.YtpamjalgcloehaaGreat
open Go.RowKit
set_option linter.unusedVariables false
set_option maxRecDepth 8000
attribute [local go_sem ↓] eqR_run

theorem below_drewN {B : Nat} {a w : World} (h : Below B a w) (N : Nat) : Below B a (w.drewN N) := ⟨h.os, h.tape, h.output, h.size, h.block⟩
theorem RdR.drewN {w : World} {v : Value} {n : Nat} {A : Nat → Rc} (h : RdR w v n A) (N : Nat) : RdR (w.drewN N) v n A := h
theorem rdR_at {w : World} {ao : Option Addr} {n cap : Nat} {A : Nat → Rc} (h : RdR w (.slice ao n cap) n A) {k : Nat} (hk : k < n) : ∃ b o, ao = some ⟨b, o, none⟩ ∧ b < w.heap.size ∧ ∀ j x, (recC (A k))[j]? = some x → w.cell? ⟨b, o + k * 9 + j, none⟩ = some x := by
  obtain ⟨ao', cap', e, _, _, h3⟩ := h
  injection e with e1 e2 e3
  subst e1 e3
  obtain ⟨b', o, rfl, hcell⟩ := h3.resolve_left (by omega)
  exact ⟨b', o, rfl, World.block_lt_of_cell? w _ (hcell k hk 0 _ rfl), hcell k hk⟩
set_option maxHeartbeats 4000000 in
theorem dg_same (w : World) (g : Gm) (v v' : Value) (n : Nat) (A : Nat → Rc) (hv : RdR w v n A) (hv' : RdR w v' n A) :
    Calls Tryz.prog 13 #[gmV g v, gmV g v'] w fun e w' => e = .returned (.bool true) ∧ Below w.heap.size w w' := by
  have HR : Hid (RdR w v n A) := hv
  have HR2 : Hid (RdR w v' n A) := hv'
  obtain ⟨ao, cap, rfl, hc, hm, _⟩ := hv
  obtain ⟨ao2, cap2, rfl, hc2, hm2, _⟩ := hv'
  obtain ⟨t, m, b⟩ := g
  go_enter Tryz.func13, Tryz.ntmps13
  go_wp2_with fail
  generalize hW : (w.alloc (.cells #[.int .i64 t, .int .i64 m, .int .i64 b, .slice ao n cap] 29)).alloc (.cells #[.int .i64 t, .int .i64 m, .int .i64 b, .slice ao2 n cap2] 29) = W
  obtain ⟨A0, A1, b0⟩ := boxed2 hW
  clear hW
  have R0 : Hid (RdR W (.slice ao n cap) n A) := HR.out.below b0
  have R1 : Hid (RdR W (.slice ao2 n cap2) n A) := HR2.out.below b0
  obtain ⟨H, hH⟩ : ∃ H, w.heap.size = H := ⟨_, rfl⟩
  have HH : Hid (w.heap.size = H) := hH
  rw [hH] at A0 A1 b0
  rw [hH]
  clear hH HR HR2
  go_loopw [5] (fun i wr => ∃ k : Nat, k ≤ n ∧ i = .int .i64 k ∧ Blk wr H [.int .i64 t, .int .i64 m, .int .i64 b, .slice ao n cap] ∧ Blk wr (H + 1) [.int .i64 t, .int .i64 m, .int .i64 b, .slice ao2 n cap2] ∧ RdR wr (.slice ao n cap) n A ∧ RdR wr (.slice ao2 n cap2) n A ∧ Below H w wr) (fun i _ => n - (intOf i).toNat)
  case atStart => exact ⟨0, by omega, rfl, A0, A1, R0.out, R1.out, b0⟩
  case round =>
    obtain ⟨k, hk, rfl, q1, q2, q3, q4, q5⟩ := hrel
    have Q3 : Hid (RdR wr (.slice ao n cap) n A) := q3
    have Q4 : Hid (RdR wr (.slice ao2 n cap2) n A) := q4
    have y3 := q1.cell 3 _ rfl
    have z3 := q2.cell 3 _ rfl
    have ly := q1.lt
    have lz := q2.lt
    by_cases hlt : k < n
    · obtain ⟨g1, o1, e1, l1, c1⟩ := rdR_at q3 hlt
      obtain ⟨g2, o2, e2, l2, c2⟩ := rdR_at q4 hlt
      clear q3 q4
      obtain ⟨r, hr⟩ : ∃ r, A k = r := ⟨_, rfl⟩
      rw [hr] at c1 c2
      clear hr
      subst e1 e2
      have eq : recB r r = true := recB_same r
      obtain ⟨r0, r1, r2, r3, r4, r5, r6, r7, r8⟩ := r
      have x0 := c1 0 _ rfl
      have x1 := c1 1 _ rfl
      have x2 := c1 2 _ rfl
      have x3 := c1 3 _ rfl
      have x4 := c1 4 _ rfl
      have x5 := c1 5 _ rfl
      have x6 := c1 6 _ rfl
      have x7 := c1 7 _ rfl
      have x8 := c1 8 _ rfl
      have u0 := c2 0 _ rfl
      have u1 := c2 1 _ rfl
      have u2 := c2 2 _ rfl
      have u3 := c2 3 _ rfl
      have u4 := c2 4 _ rfl
      have u5 := c2 5 _ rfl
      have u6 := c2 6 _ rfl
      have u7 := c2 7 _ rfl
      have u8 := c2 8 _ rfl
      simp only [Nat.add_zero] at x0 u0
      clear c1 c2
      go_wp2_with fail
      go_quiet (fail)
      go_wp2_with fail
      go_roundw
      case rel => exact ⟨k + 1, by omega, by go_num, q1.drewN _, q2.drewN _, Q3.out, Q4.out, below_drewN q5 _⟩
      case measure => simp [intOf]; omega
    · obtain rfl : k = n := by omega
      clear q3 q4
      go_wp2_with fail
      go_ret
      exact ⟨rfl, HH.out ▸ q5⟩
end Go.Proofs.YtpamjalgcloehaaGreat

namespace Go.Proofs.YtpamjalgcloehaaGreat
open Go.RowKit
set_option linter.unusedVariables false
set_option maxRecDepth 20000

theorem growR_wp {w : World} {ops : Array Oper} {rest : List Oper} {o : Oper} {a : Act} {Q : Exit → Act → World → Prop} (hgd : o.guard = none) (s x : Operand)
    (ho : o.op = .call { callee := .builtin .append, args := #[s, x], argTypes := #[27, 27] })
    (B : Nat) (v : Value) (L : List Rc) (hs : a.eval s = v) (hown : OwnR w B v L) (g0 : Nat) (r : Rc) (hx : a.eval x = .slice (some ⟨g0, 0, none⟩) 1 1)
    (hr : ∀ j u, (recC r)[j]? = some u → w.cell? ⟨g0, j, none⟩ = some u) (hlen : L.length ≤ 1000000) (hB : B ≤ w.heap.size)
    (h : ∀ v' w', OwnR w' B v' (L ++ [r]) → Grow B v w v' w' → wpList Tryz.prog ops Q rest (a.put o.dst v') w') : wpList Tryz.prog ops Q (o :: rest) a w :=
  wpList_plain hgd fun K hK => growR_op s x ho B v L hs hown g0 r hx hr hlen hB fun v' w' h1 h2 => hK _ _ (h v' w' h1 h2)
theorem rdr_e {w : World} {K R : Nat} {s : St} (h : Rdr w K R s) : w.cell? ⟨R, 2, none⟩ = some (.int .i64 s.e) := by obtain ⟨v, h⟩ := h; exact h.c2
end Go.Proofs.YtpamjalgcloehaaGreat

namespace Go.Proofs.YtpamjalgcloehaaGreat
open Go.RowKit
set_option linter.unusedVariables false

theorem rdR_congr {w : World} {v : Value} {n : Nat} {A A' : Nat → Rc} (h : RdR w v n A) (e : ∀ i, i < n → A i = A' i) : RdR w v n A' := by
  obtain ⟨ao, cap, e0, h1, h2, h3⟩ := h
  refine ⟨ao, cap, e0, h1, h2, ?_⟩
  rcases h3 with h | ⟨b, o, hb, hc⟩
  · exact Or.inl h
  · exact Or.inr ⟨b, o, hb, fun i hi j x hx => hc i hi j x (by rw [e i hi]; exact hx)⟩
theorem pre_at (A : Nat → Rc) (n i : Nat) (h : i < n) : (pre A n).getD i noRec = A i := by
  unfold pre
  simp [List.getD, h]
theorem rdR_pre {w : World} {B : Nat} {v : Value} {A : Nat → Rc} {n : Nat} (h : OwnR w B v (pre A n)) : RdR w v n A := by
  have := h.rdR
  rw [pre_len] at this
  exact rdR_congr this (fun i hi => pre_at A n i hi)
theorem rd_take {w : World} {ao : Option Addr} {N cap : Nat} {l : List Int} (h : Rd w (.slice ao N cap) l) {k : Nat} (hk : k ≤ N) : Rd w (.slice ao k cap) (l.take k) := by
  obtain ⟨ao', cap', e, h1, h2, h3, h4⟩ := h
  injection e with e1 e2 e3
  subst e1 e3
  have hl : (l.take k).length = k := by rw [List.length_take]; omega
  refine ⟨ao, cap, by rw [hl], by rw [hl]; omega, h2, h3, ?_⟩
  rcases h4 with h | ⟨b, o, h, hat⟩
  · left; rw [h]; simp
  · exact Or.inr ⟨b, o, h, hat.take k⟩
theorem tmodB (a : Int) (n : Nat) (hn : 0 < n) : ∃ i : Nat, (IntKind.u64.wrap a).tmod (8 * (n : Int)) = (i : Int) ∧ i < 8 * n := by
  have h0 : 0 ≤ IntKind.u64.wrap a := by rw [IntKind.wrap_u64]; omega
  rw [Int.tmod_eq_emod_of_nonneg h0]
  have h1 := Int.emod_nonneg (IntKind.u64.wrap a) (show 8 * (n : Int) ≠ 0 by omega)
  have h2 := Int.emod_lt_of_pos (IntKind.u64.wrap a) (show (0 : Int) < 8 * (n : Int) by omega)
  exact ⟨((IntKind.u64.wrap a) % (8 * (n : Int))).toNat, by omega, by omega⟩
theorem bit8_is (r : Nat) (h : r < 8) : 2 ^ r < 256 ∧ 2 ^ r ≠ 0 := by
  rcases (show r = 0 ∨ r = 1 ∨ r = 2 ∨ r = 3 ∨ r = 4 ∨ r = 5 ∨ r = 6 ∨ r = 7 by omega) with rfl | rfl | rfl | rfl | rfl | rfl | rfl | rfl <;> decide
theorem wrtB_no {g : Gm} {A : Nat → Rc} {n : Nat} (h : wrtE g A n ≠ 0) : wrtB g A n = [] := by unfold wrtB; rw [if_neg h]
end Go.Proofs.YtpamjalgcloehaaGreat

namespace Go.Proofs.YtpamjalgcloehaaGreat
open Go.RowKit
set_option linter.unusedVariables false

def lgA (i : Nat) : Rc := ⟨0, i, 0, 0, 0, 0, 0, 0, 0⟩
def lgG : Gm := ⟨0, 0, -1⟩
theorem lgG_ok : lgG.ok := ⟨by unfold S64 lgG; simp only; omega, by unfold S64 lgG; simp only; omega, by unfold S64 lgG; simp only; omega⟩
theorem lg_ok (i : Nat) (h : i ≤ 65535) : (lgA i).ok := by
  refine ⟨?_, ?_, ?_, ?_, ?_, ?_, ?_, ?_, ?_⟩ <;> (try unfold S64) <;> simp only [lgA] <;> omega
theorem lg_last : ∀ k, lastR (-1) (pre lgA k) = (k : Int) - 1
  | 0 => rfl
  | k + 1 => by
    rw [pre_succ, lastR_snoc]
    show ((k : Nat) : Int) = _
    omega
theorem lg_wr (k : Nat) (h : k ≤ 65535) : wrE (lgA k) ((k : Int) - 1) = 0 := by
  unfold wrE
  rw [if_pos]
  · rw [if_neg (by omega), if_neg (by show ¬ ((k : Nat) : Int) ≤ _; omega)]
  · unfold chk lgA
    simp only
    rw [if_neg (by omega), if_neg (by omega), if_neg (by omega)]
theorem lg_put : put 0 = [0] := by rw [put_lo (by omega)]
theorem lg_len (k : Nat) (h : k ≤ 65535) : (wrB (lgA k) ((k : Int) - 1)).length = 9 := by
  unfold wrB
  rw [if_pos (lg_wr k h)]
  have e : (lgA k).i - ((k : Int) - 1) - 1 = 0 := by show ((k : Nat) : Int) - _ - 1 = 0; omega
  rw [e, lg_put]
  have e2 : bodyB (lgA k) = [0, 0, 0, 0, 0, 0, 0] := by
    unfold bodyB lgA wholeB nums zs
    have z : zig 0 = 0 := by unfold zig; simp
    simp [z, lg_put]
  rw [e2]
  rfl
theorem lg_chain : ∀ k, k ≤ 65535 → chainR (-1) (pre lgA k) ∧ (encR (-1) (pre lgA k)).length = 9 * k
  | 0, _ => ⟨trivial, rfl⟩
  | k + 1, h => by
    obtain ⟨c1, c2⟩ := lg_chain k (by omega)
    rw [pre_succ]
    refine ⟨chainR_snoc _ _ _ c1 (lg_ok k (by omega)) (by rw [lg_last]; exact lg_wr k (by omega)), ?_⟩
    rw [encR_snoc, List.length_append, c2, lg_last, lg_len k (by omega)]
    omega
theorem lg_hed {n : Nat} (h : n ≤ 128) : hedE lgG n = 0 := by
  unfold hedE lgG timB
  rw [if_neg (by simp), if_neg (by simp), if_neg (by omega)]
theorem lg_yes {n : Nat} (h : n ≤ 128) : wrtE lgG lgA n = 0 := by
  obtain ⟨c1, c2⟩ := lg_chain n (by omega)
  have hh := lg_hed h
  have ge : gmE lgG lgA n = 0 := by unfold gmE; rw [if_pos hh]; exact fir_chain _ _ c1
  have hl := hedB_len hh
  unfold wrtE
  rw [if_pos ge, if_neg]
  unfold gmB
  rw [List.length_append, c2]
  omega
theorem lg_no {n : Nat} (h : 128 < n) : wrtE lgG lgA n = 8 ∧ wrtB lgG lgA n = [] := by
  have hh : hedE lgG n = 8 := by
    unfold hedE lgG timB
    rw [if_neg (by simp), if_neg (by simp), if_pos (by omega)]
  have ge : gmE lgG lgA n = 8 := by unfold gmE; rw [if_neg (by rw [hh]; decide), hh]
  have we : wrtE lgG lgA n = 8 := by unfold wrtE; rw [if_neg (by rw [ge]; decide), ge]
  exact ⟨we, wrtB_no (by rw [we]; decide)⟩
theorem zero_bytes (n : Nat) : Bytes (List.replicate n 0) := by
  intro c hc
  have := (List.mem_replicate.1 hc).2
  subst this
  omega
theorem zeros_is (n : Nat) : (rgE (List.replicate n 0) = 8 ↔ 4096 < n) ∧ rgE (List.replicate n 0) ≠ 0 := by
  by_cases h : 4096 < n
  · have := zeros_no n
    rw [if_pos h] at this
    rw [this]
    exact ⟨⟨fun _ => h, fun _ => rfl⟩, by decide⟩
  · rcases zeros_e (n := n) (by omega) with e | e | e <;> rw [e] <;> exact ⟨⟨fun h' => absurd h' (by decide), fun h' => absurd h' h⟩, by decide⟩
end Go.Proofs.YtpamjalgcloehaaGreat

namespace Go.Proofs.YtpamjalgcloehaaGreat
open Go.RowKit
set_option linter.unusedVariables false

theorem pre_take (A : Nat → Rc) (n k : Nat) (h : k ≤ n) : (pre A n).take k = pre A k := by
  unfold pre
  rw [← List.map_take, List.take_range, Nat.min_eq_left h]
theorem chain_front : ∀ (L M : List Rc) (last : Int), chainR last (L ++ M) → chainR last L
  | [], _, _, _ => trivial
  | r :: L, M, last, ⟨h1, h2, h3⟩ => ⟨h1, h2, chain_front L M r.i h3⟩
theorem chain_pre {A : Nat → Rc} {n : Nat} (h : chainR (-1) (pre A n)) {k : Nat} (hk : k < n) : wrE (A k) (lastR (-1) (pre A k)) = 0 := by
  have d := drop_cons (L := pre A n) (j := k) (by rw [pre_len]; exact hk)
  have cd := chainR_drop (pre A n) (-1) k h
  rw [d, pre_take A n k (by omega), pre_at A n k hk] at cd
  exact cd.2.1
theorem chain_cut {A : Nat → Rc} {n : Nat} (h : chainR (-1) (pre A n)) {k : Nat} (hk : k ≤ n) : chainR (-1) (pre A k) := by
  refine chain_front _ ((pre A n).drop k) _ ?_
  rw [← pre_take A n k hk, List.take_append_drop]
  exact h
theorem hed_last (g : Gm) {n : Nat} (h : n ≤ 100) : (hedB g 0).take ((hedB g 0).length - 1) ++ [(n : Int)] = hedB g n := by
  obtain ⟨F, hF⟩ : ∃ F, [71, 1] ++ put g.t ++ put (zig g.m) ++ put (bkI g) = F := ⟨_, rfl⟩
  have e0 : hedB g 0 = F ++ [0] := by
    unfold hedB
    rw [hF]
    have : put ((0 : Nat) : Int) = [0] := put_lo (by omega)
    rw [this]
  have en : hedB g n = F ++ [(n : Int)] := by
    unfold hedB
    rw [hF, put_lo (by omega)]
  rw [e0, en]
  simp
theorem hed_six (g : Gm) (n : Nat) : 6 ≤ (hedB g n).length := by
  have p1 := put_pos g.t
  have p2 := put_pos (zig g.m)
  have p3 := put_pos (bkI g)
  have p4 := put_pos (n : Int)
  unfold hedB
  simp only [List.length_append, List.length_cons, List.length_nil]
  omega
theorem gm_bare (g : Gm) (A : Nat → Rc) : gmB g A 0 = hedB g 0 := by
  unfold gmB
  rw [pre_zero]
  simp [encR]
theorem rd_blk {w : World} {M : Nat} {z : Int} (h : Blk w M [.int .u8 z]) : Rd w (.slice (some ⟨M, 0, none⟩) 1 1) [z] :=
  ⟨_, 1, rfl, Nat.le_refl _, by omega, fun h => by simp at h, Or.inr ⟨M, 0, rfl, fun i hi => by
    have : i = 0 := by simpa using hi
    subst this
    exact h.cell 0 _ rfl⟩⟩
end Go.Proofs.YtpamjalgcloehaaGreat

namespace Go.Proofs.YtpamjalgcloehaaGreat
open Go.RowKit
set_option linter.unusedVariables false

/-! Check -/
def idsE : Int → List En → Int
  | _, [] => 0
  | last, e :: L => if e.i < 0 ∨ 65535 < e.i then 3 else if e.i ≤ last then 10 else idsE e.i L
def snE (t m : Int) (L : List En) : Int := if t < 0 ∨ 4294967295 < t ∨ timB m = false then 3 else if 64 < L.length then 4 else idsE (-1) L
/-- Ids that may be, and rise. -/
def rise : Int → List En → Prop
  | _, [] => True
  | last, e :: L => last < e.i ∧ e.i ≤ 65535 ∧ rise e.i L
theorem ids_rise : ∀ (L : List En) (last : Int), -1 ≤ last → (idsE last L = 0 ↔ rise last L)
  | [], _, _ => ⟨fun _ => trivial, fun _ => rfl⟩
  | e :: L, last, h => by
    unfold idsE rise
    constructor
    · intro h1
      split at h1
      · omega
      · split at h1
        · omega
        · exact ⟨by omega, by omega, (ids_rise L e.i (by omega)).1 h1⟩
    · intro ⟨h1, h2, h3⟩
      rw [if_neg (by omega), if_neg (by omega)]
      exact (ids_rise L e.i (by omega)).2 h3
theorem sn_ok {t m : Int} {L : List En} (h : snE t m L = 0) : 0 ≤ t ∧ t ≤ 4294967295 ∧ timB m = true ∧ L.length ≤ 64 ∧ rise (-1) L := by
  unfold snE at h
  split at h
  · omega
  · rename_i h1
    split at h
    · omega
    · refine ⟨by omega, by omega, ?_, by omega, (ids_rise L (-1) (by omega)).1 h⟩
      cases e : timB m
      · exact absurd (Or.inr (Or.inr e)) h1
      · rfl

/-! Find -/
def findE (id : Int) : List En → Option En
  | [] => none
  | e :: L => if e.i = id then some e else findE id L

/-! Full, Diff -/
def putR (x : En) : Rc := ⟨0, x.i, x.p0, x.p1, x.p2, x.v0, x.v1, x.v2, x.a⟩
def remR (x : En) : Rc := ⟨2, x.i, 0, 0, 0, 0, 0, 0, 0⟩
def newE (r : Rc) : En := ⟨r.i, r.p0, r.p1, r.p2, r.v0, r.v1, r.v2, r.a, 0⟩
def consO {α : Type} (x : α) : Option (List α) → Option (List α)
  | some l => some (x :: l)
  | none => none
/-- One row's first entity against the other row (k: the rows' merge, of what is behind it). -/
def mrgIn (a : En) (k : List En → Option (List Rc)) : List En → Option (List Rc)
  | [] => consO (remR a) (k [])
  | b :: bs =>
    if a.i < b.i then consO (remR a) (k (b :: bs))
    else if b.i < a.i then (if b.g ≠ 0 then none else consO (putR b) (mrgIn a k bs))
    else if b.g ≠ a.g ∧ b.g ≠ (a.g + 1) % 256 then none
    else if entB a b = true then k bs else consO (difR a b) (k bs)
def mrgNo : List En → Option (List Rc)
  | [] => some []
  | b :: bs => if b.g ≠ 0 then none else consO (putR b) (mrgNo bs)
def mrg : List En → List En → Option (List Rc)
  | [], L => mrgNo L
  | a :: al, L => mrgIn a (mrg al) L
theorem mrg_nn : mrg [] [] = some [] := rfl
theorem mrg_cn (a : En) (al : List En) : mrg (a :: al) [] = consO (remR a) (mrg al []) := rfl
theorem mrg_nc (b : En) (bs : List En) : mrg [] (b :: bs) = if b.g ≠ 0 then none else consO (putR b) (mrg [] bs) := rfl
theorem mrg_cc (a : En) (al : List En) (b : En) (bs : List En) : mrg (a :: al) (b :: bs) =
    if a.i < b.i then consO (remR a) (mrg al (b :: bs))
    else if b.i < a.i then (if b.g ≠ 0 then none else consO (putR b) (mrg (a :: al) bs))
    else if b.g ≠ a.g ∧ b.g ≠ (a.g + 1) % 256 then none
    else if entB a b = true then mrg al bs else consO (difR a b) (mrg al bs) := rfl
def fulE (t m : Int) (L : List En) : Int := if snE t m L = 0 then (if ∃ x ∈ L, x.g ≠ 0 then 15 else 0) else snE t m L
def fulL (t m : Int) (L : List En) : List Rc := if fulE t m L = 0 then L.map putR else []
def dlE (t m : Int) (L : List En) (t' m' : Int) (L' : List En) : Int :=
  if snE t m L = 0 then (if snE t' m' L' = 0 then (if t' ≤ t then 10 else if (mrg L L').isNone = true then 15 else 0) else snE t' m' L') else snE t m L
def dlL (t m : Int) (L : List En) (t' m' : Int) (L' : List En) : List Rc := if dlE t m L t' m' L' = 0 then (mrg L L').getD [] else []

/-! Apply -/
/-- One entity against the records (k: what is made of the entities behind it). -/
def aplIn (x : En) (k : List Rc → Option (List En)) : List Rc → Option (List En)
  | [] => consO x (k [])
  | r :: rs =>
    if x.i < r.i then consO x (k (r :: rs))
    else if x.i = r.i then (if r.k = 0 then none else if r.k = 2 then k rs else consO (appN x r) (k rs))
    else if r.k = 0 then consO (newE r) (aplIn x k rs) else none
def aplNo : List Rc → Option (List En)
  | [] => some []
  | r :: rs => if r.k = 0 then consO (newE r) (aplNo rs) else none
def apl : List En → List Rc → Option (List En)
  | [], R => aplNo R
  | x :: xs, R => aplIn x (apl xs) R
theorem apl_nil : ∀ (L : List En), apl L [] = some L
  | [] => rfl
  | x :: xs => by
    show consO x (apl xs []) = _
    rw [apl_nil xs]; rfl
theorem apl_nc (r : Rc) (rs : List Rc) : apl [] (r :: rs) = if r.k = 0 then consO (newE r) (apl [] rs) else none := rfl
theorem apl_cc (x : En) (xs : List En) (r : Rc) (rs : List Rc) : apl (x :: xs) (r :: rs) =
    if x.i < r.i then consO x (apl xs (r :: rs))
    else if x.i = r.i then (if r.k = 0 then none else if r.k = 2 then apl xs rs else consO (appN x r) (apl xs rs))
    else if r.k = 0 then consO (newE r) (apl (x :: xs) rs) else none := rfl
def wasL (b : Int) (L : List En) : List En := if b = -1 then [] else L
def aplE (t m : Int) (L : List En) (g : Gm) (A : Nat → Rc) (n : Nat) : Int :=
  if gmE g A n = 0 then
    (if g.b ≠ -1 ∧ snE t m L ≠ 0 then snE t m L else if g.b ≠ -1 ∧ t ≠ g.b then 14
     else match apl (wasL g.b L) (pre A n) with
       | none => 15
       | some M => if 64 < M.length then 4 else 0)
  else gmE g A n
def aplL (t m : Int) (L : List En) (g : Gm) (A : Nat → Rc) (n : Nat) : List En := if aplE t m L g A n = 0 then (apl (wasL g.b L) (pre A n)).getD [] else []
end Go.Proofs.YtpamjalgcloehaaGreat
