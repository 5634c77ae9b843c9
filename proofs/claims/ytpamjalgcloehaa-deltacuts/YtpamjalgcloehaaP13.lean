/-
  Texts Gm15, Gm16, Gm17, Dl1, Dl2 in one.
-/
import Derived.Deep.CutBlock
import Derived.Deep.DrawnRows
import Derived.Deep.RegionHeldLaw
import Derived.Test.YtpamjalgcloehaaP12
namespace Go.Proofs.Ytpamjalgcloehaa
open Go.RowKit
set_option linter.unusedVariables false

theorem rdR_congr {w : World} {v : Value} {n : Nat} {A A' : Nat → Rc} (h : RdR w v n A) (e : ∀ i, i < n → A i = A' i) : RdR w v n A' := by
  obtain ⟨ao, cap, e0, h1, h2, h3⟩ := h
  refine ⟨ao, cap, e0, h1, h2, ?_⟩
  rcases h3 with h | ⟨b, o, hb, hc⟩
  · exact Or.inl h
  · exact Or.inr ⟨b, o, hb, fun i hi j x hx => hc i hi j x (by rw [e i hi]; exact hx)⟩
theorem pre_at (A : Nat → Rc) (n i : Nat) (h : i < n) : (pre A n).getD i noRec = A i := by
  unfold pre
  simp [List.getD, h]
theorem rdR_pre {w : World} {B : Nat} {v : Value} {A : Nat → Rc} {n : Nat} (h : OwnR w B v (pre A n)) : RdR w v n A := by
  have := h.rdR
  rw [pre_len] at this
  exact rdR_congr this (fun i hi => pre_at A n i hi)
theorem rd_take {w : World} {ao : Option Addr} {N cap : Nat} {l : List Int} (h : Rd w (.slice ao N cap) l) {k : Nat} (hk : k ≤ N) : Rd w (.slice ao k cap) (l.take k) := by
  obtain ⟨ao', cap', e, h1, h2, h3, h4⟩ := h
  injection e with e1 e2 e3
  subst e1 e3
  have hl : (l.take k).length = k := by rw [List.length_take]; omega
  refine ⟨ao, cap, by rw [hl], by rw [hl]; omega, h2, h3, ?_⟩
  rcases h4 with h | ⟨b, o, h, hat⟩
  · left; rw [h]; simp
  · exact Or.inr ⟨b, o, h, hat.take k⟩
theorem tmodB (a : Int) (n : Nat) (hn : 0 < n) : ∃ i : Nat, (IntKind.u64.wrap a).tmod (8 * (n : Int)) = (i : Int) ∧ i < 8 * n := by
  have h0 : 0 ≤ IntKind.u64.wrap a := by rw [IntKind.wrap_u64]; omega
  rw [Int.tmod_eq_emod_of_nonneg h0]
  have h1 := Int.emod_nonneg (IntKind.u64.wrap a) (show 8 * (n : Int) ≠ 0 by omega)
  have h2 := Int.emod_lt_of_pos (IntKind.u64.wrap a) (show (0 : Int) < 8 * (n : Int) by omega)
  exact ⟨((IntKind.u64.wrap a) % (8 * (n : Int))).toNat, by omega, by omega⟩
theorem bit8_is (r : Nat) (h : r < 8) : 2 ^ r < 256 ∧ 2 ^ r ≠ 0 := by
  rcases (show r = 0 ∨ r = 1 ∨ r = 2 ∨ r = 3 ∨ r = 4 ∨ r = 5 ∨ r = 6 ∨ r = 7 by omega) with rfl | rfl | rfl | rfl | rfl | rfl | rfl | rfl <;> decide
theorem wrtB_no {g : Gm} {A : Nat → Rc} {n : Nat} (h : wrtE g A n ≠ 0) : wrtB g A n = [] := by unfold wrtB; rw [if_neg h]
end Go.Proofs.Ytpamjalgcloehaa

namespace Go.Proofs.Ytpamjalgcloehaa
open Go.RowKit
set_option linter.unusedVariables false

def lgA (i : Nat) : Rc := ⟨0, i, 0, 0, 0, 0, 0, 0, 0⟩
def lgG : Gm := ⟨0, 0, -1⟩
theorem lgG_ok : lgG.ok := ⟨by unfold S64 lgG; simp only; omega, by unfold S64 lgG; simp only; omega, by unfold S64 lgG; simp only; omega⟩
theorem lg_ok (i : Nat) (h : i ≤ 65535) : (lgA i).ok := by
  refine ⟨?_, ?_, ?_, ?_, ?_, ?_, ?_, ?_, ?_⟩ <;> (try unfold S64) <;> simp only [lgA] <;> omega
theorem lg_last : ∀ k, lastR (-1) (pre lgA k) = (k : Int) - 1
  | 0 => rfl
  | k + 1 => by
    rw [pre_succ, lastR_snoc]
    show ((k : Nat) : Int) = _
    omega
theorem lg_wr (k : Nat) (h : k ≤ 65535) : wrE (lgA k) ((k : Int) - 1) = 0 := by
  unfold wrE
  rw [if_pos]
  · rw [if_neg (by omega), if_neg (by show ¬ ((k : Nat) : Int) ≤ _; omega)]
  · unfold chk lgA
    simp only
    rw [if_neg (by omega), if_neg (by omega), if_neg (by omega)]
theorem lg_put : put 0 = [0] := by rw [put_lo (by omega)]
theorem lg_len (k : Nat) (h : k ≤ 65535) : (wrB (lgA k) ((k : Int) - 1)).length = 9 := by
  unfold wrB
  rw [if_pos (lg_wr k h)]
  have e : (lgA k).i - ((k : Int) - 1) - 1 = 0 := by show ((k : Nat) : Int) - _ - 1 = 0; omega
  rw [e, lg_put]
  have e2 : bodyB (lgA k) = [0, 0, 0, 0, 0, 0, 0] := by
    unfold bodyB lgA wholeB nums zs
    have z : zig 0 = 0 := by unfold zig; simp
    simp [z, lg_put]
  rw [e2]
  rfl
theorem lg_chain : ∀ k, k ≤ 65535 → chainR (-1) (pre lgA k) ∧ (encR (-1) (pre lgA k)).length = 9 * k
  | 0, _ => ⟨trivial, rfl⟩
  | k + 1, h => by
    obtain ⟨c1, c2⟩ := lg_chain k (by omega)
    rw [pre_succ]
    refine ⟨chainR_snoc _ _ _ c1 (lg_ok k (by omega)) (by rw [lg_last]; exact lg_wr k (by omega)), ?_⟩
    rw [encR_snoc, List.length_append, c2, lg_last, lg_len k (by omega)]
    omega
theorem lg_hed {n : Nat} (h : n ≤ 128) : hedE lgG n = 0 := by
  unfold hedE lgG timB
  rw [if_neg (by simp), if_neg (by simp), if_neg (by omega)]
theorem lg_yes {n : Nat} (h : n ≤ 128) : wrtE lgG lgA n = 0 := by
  obtain ⟨c1, c2⟩ := lg_chain n (by omega)
  have hh := lg_hed h
  have ge : gmE lgG lgA n = 0 := by unfold gmE; rw [if_pos hh]; exact fir_chain _ _ c1
  have hl := hedB_len hh
  unfold wrtE
  rw [if_pos ge, if_neg]
  unfold gmB
  rw [List.length_append, c2]
  omega
theorem lg_no {n : Nat} (h : 128 < n) : wrtE lgG lgA n = 8 ∧ wrtB lgG lgA n = [] := by
  have hh : hedE lgG n = 8 := by
    unfold hedE lgG timB
    rw [if_neg (by simp), if_neg (by simp), if_pos (by omega)]
  have ge : gmE lgG lgA n = 8 := by unfold gmE; rw [if_neg (by rw [hh]; decide), hh]
  have we : wrtE lgG lgA n = 8 := by unfold wrtE; rw [if_neg (by rw [ge]; decide), ge]
  exact ⟨we, wrtB_no (by rw [we]; decide)⟩
theorem zero_bytes (n : Nat) : Bytes (List.replicate n 0) := by
  intro c hc
  have := (List.mem_replicate.1 hc).2
  subst this
  omega
theorem zeros_is (n : Nat) : (rgE (List.replicate n 0) = 8 ↔ 4096 < n) ∧ rgE (List.replicate n 0) ≠ 0 := by
  by_cases h : 4096 < n
  · have := zeros_no n
    rw [if_pos h] at this
    rw [this]
    exact ⟨⟨fun _ => h, fun _ => rfl⟩, by decide⟩
  · rcases zeros_e (n := n) (by omega) with e | e | e <;> rw [e] <;> exact ⟨⟨fun h' => absurd h' (by decide), fun h' => absurd h' h⟩, by decide⟩
end Go.Proofs.Ytpamjalgcloehaa

namespace Go.Proofs.Ytpamjalgcloehaa
open Go.RowKit
set_option linter.unusedVariables false

theorem pre_take (A : Nat → Rc) (n k : Nat) (h : k ≤ n) : (pre A n).take k = pre A k := by
  unfold pre
  rw [← List.map_take, List.take_range, Nat.min_eq_left h]
theorem chain_front : ∀ (L M : List Rc) (last : Int), chainR last (L ++ M) → chainR last L
  | [], _, _, _ => trivial
  | r :: L, M, last, ⟨h1, h2, h3⟩ => ⟨h1, h2, chain_front L M r.i h3⟩
theorem chain_pre {A : Nat → Rc} {n : Nat} (h : chainR (-1) (pre A n)) {k : Nat} (hk : k < n) : wrE (A k) (lastR (-1) (pre A k)) = 0 := by
  have d := drop_cons (L := pre A n) (j := k) (by rw [pre_len]; exact hk)
  have cd := chainR_drop (pre A n) (-1) k h
  rw [d, pre_take A n k (by omega), pre_at A n k hk] at cd
  exact cd.2.1
theorem chain_cut {A : Nat → Rc} {n : Nat} (h : chainR (-1) (pre A n)) {k : Nat} (hk : k ≤ n) : chainR (-1) (pre A k) := by
  refine chain_front _ ((pre A n).drop k) _ ?_
  rw [← pre_take A n k hk, List.take_append_drop]
  exact h
theorem hed_last (g : Gm) {n : Nat} (h : n ≤ 100) : (hedB g 0).take ((hedB g 0).length - 1) ++ [(n : Int)] = hedB g n := by
  obtain ⟨F, hF⟩ : ∃ F, [71, 1] ++ put g.t ++ put (zig g.m) ++ put (bkI g) = F := ⟨_, rfl⟩
  have e0 : hedB g 0 = F ++ [0] := by
    unfold hedB
    rw [hF]
    have : put ((0 : Nat) : Int) = [0] := put_lo (by omega)
    rw [this]
  have en : hedB g n = F ++ [(n : Int)] := by
    unfold hedB
    rw [hF, put_lo (by omega)]
  rw [e0, en]
  simp
theorem hed_six (g : Gm) (n : Nat) : 6 ≤ (hedB g n).length := by
  have p1 := put_pos g.t
  have p2 := put_pos (zig g.m)
  have p3 := put_pos (bkI g)
  have p4 := put_pos (n : Int)
  unfold hedB
  simp only [List.length_append, List.length_cons, List.length_nil]
  omega
theorem gm_bare (g : Gm) (A : Nat → Rc) : gmB g A 0 = hedB g 0 := by
  unfold gmB
  rw [pre_zero]
  simp [encR]
theorem rd_blk {w : World} {M : Nat} {z : Int} (h : Blk w M [.int .u8 z]) : Rd w (.slice (some ⟨M, 0, none⟩) 1 1) [z] :=
  ⟨_, 1, rfl, Nat.le_refl _, by omega, fun h => by simp at h, Or.inr ⟨M, 0, rfl, fun i hi => by
    have : i = 0 := by simpa using hi
    subst this
    exact h.cell 0 _ rfl⟩⟩
end Go.Proofs.Ytpamjalgcloehaa

namespace Go.Proofs.Ytpamjalgcloehaa
open Go.RowKit
set_option linter.unusedVariables false

/-! Check -/
def idsE : Int → List En → Int
  | _, [] => 0
  | last, e :: L => if e.i < 0 ∨ 65535 < e.i then 3 else if e.i ≤ last then 10 else idsE e.i L
def snE (t m : Int) (L : List En) : Int := if t < 0 ∨ 4294967295 < t ∨ timB m = false then 3 else if 64 < L.length then 4 else idsE (-1) L
/-- Ids that may be, and rise. -/
def rise : Int → List En → Prop
  | _, [] => True
  | last, e :: L => last < e.i ∧ e.i ≤ 65535 ∧ rise e.i L
theorem ids_rise : ∀ (L : List En) (last : Int), -1 ≤ last → (idsE last L = 0 ↔ rise last L)
  | [], _, _ => ⟨fun _ => trivial, fun _ => rfl⟩
  | e :: L, last, h => by
    unfold idsE rise
    constructor
    · intro h1
      split at h1
      · omega
      · split at h1
        · omega
        · exact ⟨by omega, by omega, (ids_rise L e.i (by omega)).1 h1⟩
    · intro ⟨h1, h2, h3⟩
      rw [if_neg (by omega), if_neg (by omega)]
      exact (ids_rise L e.i (by omega)).2 h3
theorem sn_ok {t m : Int} {L : List En} (h : snE t m L = 0) : 0 ≤ t ∧ t ≤ 4294967295 ∧ timB m = true ∧ L.length ≤ 64 ∧ rise (-1) L := by
  unfold snE at h
  split at h
  · omega
  · rename_i h1
    split at h
    · omega
    · refine ⟨by omega, by omega, ?_, by omega, (ids_rise L (-1) (by omega)).1 h⟩
      cases e : timB m
      · exact absurd (Or.inr (Or.inr e)) h1
      · rfl

/-! Find -/
def findE (id : Int) : List En → Option En
  | [] => none
  | e :: L => if e.i = id then some e else findE id L

/-! Full, Diff -/
def putR (x : En) : Rc := ⟨0, x.i, x.p0, x.p1, x.p2, x.v0, x.v1, x.v2, x.a⟩
def remR (x : En) : Rc := ⟨2, x.i, 0, 0, 0, 0, 0, 0, 0⟩
def newE (r : Rc) : En := ⟨r.i, r.p0, r.p1, r.p2, r.v0, r.v1, r.v2, r.a, 0⟩
def consO {α : Type} (x : α) : Option (List α) → Option (List α)
  | some l => some (x :: l)
  | none => none
/-- One row's first entity against the other row (k: the rows' merge, of what is behind it). -/
def mrgIn (a : En) (k : List En → Option (List Rc)) : List En → Option (List Rc)
  | [] => consO (remR a) (k [])
  | b :: bs =>
    if a.i < b.i then consO (remR a) (k (b :: bs))
    else if b.i < a.i then (if b.g ≠ 0 then none else consO (putR b) (mrgIn a k bs))
    else if b.g ≠ a.g ∧ b.g ≠ (a.g + 1) % 256 then none
    else if entB a b = true then k bs else consO (difR a b) (k bs)
def mrgNo : List En → Option (List Rc)
  | [] => some []
  | b :: bs => if b.g ≠ 0 then none else consO (putR b) (mrgNo bs)
def mrg : List En → List En → Option (List Rc)
  | [], L => mrgNo L
  | a :: al, L => mrgIn a (mrg al) L
theorem mrg_nn : mrg [] [] = some [] := rfl
theorem mrg_cn (a : En) (al : List En) : mrg (a :: al) [] = consO (remR a) (mrg al []) := rfl
theorem mrg_nc (b : En) (bs : List En) : mrg [] (b :: bs) = if b.g ≠ 0 then none else consO (putR b) (mrg [] bs) := rfl
theorem mrg_cc (a : En) (al : List En) (b : En) (bs : List En) : mrg (a :: al) (b :: bs) =
    if a.i < b.i then consO (remR a) (mrg al (b :: bs))
    else if b.i < a.i then (if b.g ≠ 0 then none else consO (putR b) (mrg (a :: al) bs))
    else if b.g ≠ a.g ∧ b.g ≠ (a.g + 1) % 256 then none
    else if entB a b = true then mrg al bs else consO (difR a b) (mrg al bs) := rfl
def fulE (t m : Int) (L : List En) : Int := if snE t m L = 0 then (if ∃ x ∈ L, x.g ≠ 0 then 15 else 0) else snE t m L
def fulL (t m : Int) (L : List En) : List Rc := if fulE t m L = 0 then L.map putR else []
def dlE (t m : Int) (L : List En) (t' m' : Int) (L' : List En) : Int :=
  if snE t m L = 0 then (if snE t' m' L' = 0 then (if t' ≤ t then 10 else if (mrg L L').isNone = true then 15 else 0) else snE t' m' L') else snE t m L
def dlL (t m : Int) (L : List En) (t' m' : Int) (L' : List En) : List Rc := if dlE t m L t' m' L' = 0 then (mrg L L').getD [] else []

/-! Apply -/
/-- One entity against the records (k: what is made of the entities behind it). -/
def aplIn (x : En) (k : List Rc → Option (List En)) : List Rc → Option (List En)
  | [] => consO x (k [])
  | r :: rs =>
    if x.i < r.i then consO x (k (r :: rs))
    else if x.i = r.i then (if r.k = 0 then none else if r.k = 2 then k rs else consO (appN x r) (k rs))
    else if r.k = 0 then consO (newE r) (aplIn x k rs) else none
def aplNo : List Rc → Option (List En)
  | [] => some []
  | r :: rs => if r.k = 0 then consO (newE r) (aplNo rs) else none
def apl : List En → List Rc → Option (List En)
  | [], R => aplNo R
  | x :: xs, R => aplIn x (apl xs) R
theorem apl_nil : ∀ (L : List En), apl L [] = some L
  | [] => rfl
  | x :: xs => by
    show consO x (apl xs []) = _
    rw [apl_nil xs]; rfl
theorem apl_nc (r : Rc) (rs : List Rc) : apl [] (r :: rs) = if r.k = 0 then consO (newE r) (apl [] rs) else none := rfl
theorem apl_cc (x : En) (xs : List En) (r : Rc) (rs : List Rc) : apl (x :: xs) (r :: rs) =
    if x.i < r.i then consO x (apl xs (r :: rs))
    else if x.i = r.i then (if r.k = 0 then none else if r.k = 2 then apl xs rs else consO (appN x r) (apl xs rs))
    else if r.k = 0 then consO (newE r) (apl (x :: xs) rs) else none := rfl
def wasL (b : Int) (L : List En) : List En := if b = -1 then [] else L
def aplE (t m : Int) (L : List En) (g : Gm) (A : Nat → Rc) (n : Nat) : Int :=
  if gmE g A n = 0 then
    (if g.b ≠ -1 ∧ snE t m L ≠ 0 then snE t m L else if g.b ≠ -1 ∧ t ≠ g.b then 14
     else match apl (wasL g.b L) (pre A n) with
       | none => 15
       | some M => if 64 < M.length then 4 else 0)
  else gmE g A n
def aplL (t m : Int) (L : List En) (g : Gm) (A : Nat → Rc) (n : Nat) : List En := if aplE t m L g A n = 0 then (apl (wasL g.b L) (pre A n)).getD [] else []
end Go.Proofs.Ytpamjalgcloehaa

namespace Go.Proofs.Ytpamjalgcloehaa
open Go.RowKit
set_option linter.unusedVariables false

def isO {α : Type} : Option α → Bool
  | some _ => true
  | none => false
theorem consO_none {α : Type} {x : α} {o : Option (List α)} : consO x o = none ↔ o = none := by cases o <;> simp [consO]
theorem rise_mono : ∀ {L : List En} {a b : Int}, a ≤ b → rise b L → rise a L
  | [], _, _, _, _ => trivial
  | e :: L, a, b, h, h1 => ⟨by have := h1.1; omega, h1.2⟩
theorem find_low : ∀ {L : List En} {a id : Int}, rise a L → id ≤ a → findE id L = none
  | [], _, _, _, _ => rfl
  | e :: L, a, id, h, hid => by
    have h1 := h.1
    unfold findE
    rw [if_neg (by omega)]
    exact find_low h.2.2 (by omega)
theorem find_i : ∀ {L : List En} {id : Int} {x : En}, findE id L = some x → x.i = id ∧ x ∈ L
  | [], _, _, h => by cases h
  | e :: L, id, x, h => by
    unfold findE at h
    split at h
    · cases h
      exact ⟨by assumption, by simp⟩
    · have := find_i h
      exact ⟨this.1, by simp [this.2]⟩
theorem find_none : ∀ {L : List En} {id : Int}, (∀ x ∈ L, x.i ≠ id) → findE id L = none
  | [], _, _ => rfl
  | e :: L, id, h => by
    unfold findE
    rw [if_neg (h e (by simp))]
    exact find_none (fun x hx => h x (by simp [hx]))
theorem rise_lt : ∀ {L : List En} {a : Int}, rise a L → ∀ x ∈ L, a < x.i ∧ x.i ≤ 65535
  | [], _, _, _, hx => by cases hx
  | e :: L, a, h, x, hx => by
    rcases List.mem_cons.1 hx with rfl | hx
    · exact ⟨h.1, h.2.1⟩
    · have := rise_lt h.2.2 x hx
      have := h.1
      omega
theorem find_mem : ∀ {L : List En} {a : Int}, rise a L → ∀ x ∈ L, findE x.i L = some x
  | [], _, _, _, hx => by cases hx
  | e :: L, a, h, x, hx => by
    unfold findE
    rcases List.mem_cons.1 hx with rfl | hx
    · rw [if_pos rfl]
    · have := (rise_lt h.2.2 x hx).1
      rw [if_neg (by omega)]
      exact find_mem h.2.2 x hx
theorem rise_pair : ∀ {L : List En} {a : Int}, rise a L → L.Pairwise (fun x y => x.i < y.i)
  | [], _, _ => List.Pairwise.nil
  | e :: L, a, h => List.pairwise_cons.2 ⟨fun x hx => (rise_lt h.2.2 x hx).1, rise_pair h.2.2⟩

/-! an entity put, or taken -/
def ins (e : En) : List En → List En
  | [] => [e]
  | x :: M => if x.i < e.i then x :: ins e M else if x.i = e.i then e :: M else e :: x :: M
def del (id : Int) : List En → List En
  | [] => []
  | x :: M => if x.i = id then M else x :: del id M
theorem find_ins (e : En) (id : Int) : ∀ M, findE id (ins e M) = if id = e.i then some e else findE id M
  | [] => by
    unfold ins findE
    by_cases h : id = e.i
    · rw [if_pos h.symm, if_pos h]
    · rw [if_neg (fun q => h q.symm), if_neg h]; rfl
  | x :: M => by
    have ih := find_ins e id M
    unfold ins
    split
    · rename_i h1
      unfold findE
      rw [ih]
      by_cases h : x.i = id
      · rw [if_pos h, if_neg (by omega), if_pos h]
      · rw [if_neg h]
        by_cases h2 : id = e.i
        · rw [if_pos h2, if_pos h2]
        · rw [if_neg h2, if_neg h2, if_neg h]
    · rename_i h1
      split
      · rename_i h2
        by_cases h : id = e.i
        · rw [if_pos h]; unfold findE; rw [if_pos h.symm]
        · rw [if_neg h]
          show (if e.i = id then _ else _) = (if x.i = id then _ else _)
          rw [if_neg (fun q => h q.symm), if_neg (by omega)]
      · by_cases h : id = e.i
        · rw [if_pos h]; unfold findE; rw [if_pos h.symm]
        · rw [if_neg h]
          show (if e.i = id then _ else _) = _
          rw [if_neg (fun q => h q.symm)]
theorem rise_ins {e : En} (he : e.i ≤ 65535) : ∀ {M : List En} {a : Int}, rise a M → a < e.i → rise a (ins e M)
  | [], a, _, h => ⟨h, he, trivial⟩
  | x :: M, a, h, hae => by
    unfold ins
    split
    · exact ⟨h.1, h.2.1, rise_ins he h.2.2 (by omega)⟩
    · split
      · rename_i h2
        exact ⟨hae, he, by rw [← h2]; exact h.2.2⟩
      · exact ⟨hae, he, by omega, h.2.1, h.2.2⟩
theorem len_ins {e : En} : ∀ {M : List En} {a : Int}, rise a M → (ins e M).length = if isO (findE e.i M) = true then M.length else M.length + 1
  | [], _, _ => rfl
  | x :: M, a, h => by
    have ih := len_ins (e := e) h.2.2
    unfold ins findE
    by_cases h1 : x.i < e.i
    · have hn : ¬ x.i = e.i := by omega
      rw [if_pos h1, if_neg hn, List.length_cons, ih]
      split <;> simp
    · rw [if_neg h1]
      by_cases h2 : x.i = e.i
      · rw [if_pos h2, if_pos h2]; rfl
      · rw [if_neg h2, if_neg h2, find_low h.2.2 (by omega)]
        simp [isO]
theorem find_del (k id : Int) : ∀ {M : List En} {a : Int}, rise a M → findE id (del k M) = if id = k then none else findE id M
  | [], _, _ => by unfold del findE; split <;> rfl
  | x :: M, a, h => by
    have ih := find_del k id h.2.2
    unfold del
    split
    · rename_i h1
      by_cases h2 : id = k
      · rw [if_pos h2]; exact find_low h.2.2 (by omega)
      · rw [if_neg h2]
        show _ = (if x.i = id then _ else _)
        rw [if_neg (by omega)]
    · rename_i h1
      show (if x.i = id then _ else _) = _
      rw [ih]
      by_cases h2 : id = k
      · rw [if_neg (by omega), if_pos h2, if_pos h2]
      · rw [if_neg h2, if_neg h2]; rfl
theorem rise_del (k : Int) : ∀ {M : List En} {a : Int}, rise a M → rise a (del k M)
  | [], _, _ => trivial
  | x :: M, a, h => by
    unfold del
    split
    · exact rise_mono (by have := h.1; omega) h.2.2
    · exact ⟨h.1, h.2.1, rise_del k h.2.2⟩
theorem len_del (k : Int) : ∀ (M : List En), (del k M).length + (if isO (findE k M) = true then 1 else 0) = M.length
  | [] => rfl
  | x :: M => by
    have ih := len_del k M
    unfold del findE
    by_cases h : x.i = k
    · rw [if_pos h, if_pos h]; rfl
    · rw [if_neg h, if_neg h, List.length_cons, List.length_cons]; omega
theorem del_low : ∀ {M : List En} {a k : Int}, rise a M → k ≤ a → del k M = M
  | [], _, _, _, _ => rfl
  | x :: M, a, k, h, hk => by
    have h1 := h.1
    unfold del
    rw [if_neg (by omega), del_low h.2.2 (by omega)]
theorem mem_ins {e y : En} : ∀ {M : List En}, y ∈ ins e M → y = e ∨ y ∈ M
  | [], h => by unfold ins at h; simp at h; exact Or.inl h
  | x :: M, h => by
    unfold ins at h
    split at h
    · rcases List.mem_cons.1 h with h | h
      · exact Or.inr (by simp [h])
      · rcases mem_ins h with h | h
        · exact Or.inl h
        · exact Or.inr (by simp [h])
    · split at h
      · rcases List.mem_cons.1 h with h | h
        · exact Or.inl h
        · exact Or.inr (by simp [h])
      · rcases List.mem_cons.1 h with h | h
        · exact Or.inl h
        · exact Or.inr h
theorem mem_del {k : Int} {y : En} : ∀ {M : List En}, y ∈ del k M → y ∈ M
  | [], h => h
  | x :: M, h => by
    unfold del at h
    split at h
    · simp [h]
    · rcases List.mem_cons.1 h with h | h
      · simp [h]
      · simp [mem_del h]

/-! what one record makes -/
def doR (M : List En) (r : Rc) : Option (List En) :=
  match findE r.i M with
  | none => if r.k = 0 then some (ins (newE r) M) else none
  | some x => if r.k = 0 then none else if r.k = 2 then some (del r.i M) else some (ins (appN x r) M)
def doAll : List En → List Rc → Option (List En)
  | M, [] => some M
  | M, r :: rs => match doR M r with
    | none => none
    | some M' => doAll M' rs
theorem app_same {x : En} {r : Rc} (hc : chk r = 0) (hi : r.i = x.i) (h0 : r.k ≠ 0) (h2 : r.k ≠ 2) : appE x r = 0 ∧ (appN x r).i = r.i := by
  have e : appE x r = 0 := by unfold appE; rw [if_pos hc, if_neg (by omega)]
  refine ⟨e, ?_⟩
  unfold appN
  rw [if_pos e, hi]
  split <;> rfl
/-- Records that may be, of rising Ids. -/
def asc : Int → List Rc → Prop
  | _, [] => True
  | last, r :: rs => last < r.i ∧ r.i ≤ 65535 ∧ chk r = 0 ∧ asc r.i rs
theorem asc_mono : ∀ {R : List Rc} {a b : Int}, a ≤ b → asc b R → asc a R
  | [], _, _, _, _ => trivial
  | r :: R, a, b, h, h1 => ⟨by have := h1.1; omega, h1.2⟩
theorem asc_lt : ∀ {R : List Rc} {a : Int}, asc a R → ∀ r ∈ R, a < r.i ∧ r.i ≤ 65535 ∧ chk r = 0
  | [], _, _, _, hr => by cases hr
  | s :: R, a, h, r, hr => by
    rcases List.mem_cons.1 hr with rfl | hr
    · exact ⟨h.1, h.2.1, h.2.2.1⟩
    · have h2 := asc_lt h.2.2.2 r hr
      have h3 := h.1
      exact ⟨by omega, h2.2⟩
theorem chk_in {r : Rc} (h : chk r = 0) : 0 ≤ r.k ∧ r.k < 4 ∧ 0 ≤ r.i ∧ r.i ≤ 65535 := by
  unfold chk at h
  split at h
  · omega
  · split at h
    · omega
    · omega
theorem fir_asc : ∀ {R : List Rc} {a : Int}, firE a R = 0 → asc a R
  | [], _, _ => trivial
  | r :: R, a, h => by
    have h' : (if wrE r a = 0 then firE r.i R else wrE r a) = 0 := h
    by_cases hw : wrE r a = 0
    · rw [if_pos hw] at h'
      have h1 := wrE_ok hw
      exact ⟨h1.2.2, (chk_in h1.1).2.2.2, h1.1, fir_asc h'⟩
    · rw [if_neg hw] at h'; exact absurd h' hw
theorem do_cons {x : En} {M : List En} {r : Rc} (hc : chk r = 0) (h : x.i < r.i) : doR (x :: M) r = consO x (doR M r) := by
  have e : findE r.i (x :: M) = findE r.i M := by show (if x.i = r.i then _ else _) = _; rw [if_neg (by omega)]
  unfold doR
  rw [e]
  cases hf : findE r.i M with
  | none =>
    dsimp only
    split
    · show some (if x.i < r.i then x :: ins (newE r) M else _) = _
      rw [if_pos h]; rfl
    · rfl
  | some y =>
    dsimp only
    split
    · rfl
    · split
      · show some (if x.i = r.i then M else x :: del r.i M) = _
        rw [if_neg (by omega)]; rfl
      · rename_i h0 h2
        have hy := (app_same (x := y) hc (find_i hf).1.symm h0 h2).2
        show some (if x.i < (appN y r).i then x :: ins (appN y r) M else _) = _
        rw [if_pos (by omega)]; rfl
theorem all_cons : ∀ {R : List Rc} {x : En} {M : List En}, (∀ r ∈ R, x.i < r.i ∧ chk r = 0) → doAll (x :: M) R = consO x (doAll M R)
  | [], _, _, _ => rfl
  | r :: R, x, M, h => by
    have h1 := h r (by simp)
    unfold doAll
    rw [do_cons h1.2 h1.1]
    cases doR M r with
    | none => rfl
    | some M' => exact all_cons (fun s hs => h s (by simp [hs]))
theorem apl_allN : ∀ (n : Nat) (M : List En) (R : List Rc) (a : Int), M.length + R.length < n → rise a M → asc a R → apl M R = doAll M R
  | 0, _, _, _, h, _, _ => absurd h (Nat.not_lt_zero _)
  | n + 1, M, [], a, _, _, _ => by rw [apl_nil]; rfl
  | n + 1, [], r :: R, a, hn, _, hr => by
    have ih := apl_allN n [] R r.i (by simp at hn ⊢; omega) trivial hr.2.2.2
    rw [apl_nc]
    unfold doAll doR
    dsimp only [findE]
    split
    · show consO (newE r) (apl [] R) = doAll [newE r] R
      rw [ih, all_cons (fun s hs => ⟨(asc_lt hr.2.2.2 s hs).1, (asc_lt hr.2.2.2 s hs).2.2⟩)]
    · rfl
  | n + 1, x :: M, r :: R, a, hn, hm, hr => by
    simp only [List.length_cons] at hn
    have hR : ∀ s ∈ r :: R, r.i ≤ s.i ∧ chk s = 0 := fun s hs => by
      rcases List.mem_cons.1 hs with rfl | hs
      · exact ⟨Int.le_refl _, hr.2.2.1⟩
      · have := asc_lt hr.2.2.2 s hs
        exact ⟨by omega, this.2.2⟩
    rw [apl_cc]
    by_cases h1 : x.i < r.i
    · rw [if_pos h1, apl_allN n M (r :: R) x.i (by simp; omega) hm.2.2 ⟨h1, hr.2⟩, all_cons (fun s hs => ⟨by have := (hR s hs).1; omega, (hR s hs).2⟩)]
    · rw [if_neg h1]
      have later : ∀ s ∈ R, r.i < s.i ∧ chk s = 0 := fun s hs => ⟨(asc_lt hr.2.2.2 s hs).1, (asc_lt hr.2.2.2 s hs).2.2⟩
      by_cases h2 : x.i = r.i
      · rw [if_pos h2]
        have e : findE r.i (x :: M) = some x := by show (if x.i = r.i then _ else _) = _; rw [if_pos h2]
        have hm' : rise r.i M := by rw [← h2]; exact hm.2.2
        unfold doAll doR
        rw [e]
        dsimp only
        by_cases k0 : r.k = 0
        · rw [if_pos k0, if_pos k0]
        · rw [if_neg k0, if_neg k0]
          by_cases k2 : r.k = 2
          · rw [if_pos k2, if_pos k2]
            show _ = doAll (if x.i = r.i then M else _) R
            rw [if_pos h2]
            exact apl_allN n M R r.i (by omega) hm' hr.2.2.2
          · rw [if_neg k2, if_neg k2]
            have hy := (app_same (x := x) hr.2.2.1 h2.symm k0 k2).2
            show _ = doAll (if x.i < (appN x r).i then _ else if x.i = (appN x r).i then appN x r :: M else _) R
            rw [if_neg (by omega), if_pos (by omega), all_cons (fun s hs => ⟨by have := (later s hs).1; omega, (later s hs).2⟩), apl_allN n M R r.i (by omega) hm' hr.2.2.2]
      · rw [if_neg h2]
        have e : findE r.i (x :: M) = none := by
          show (if x.i = r.i then _ else _) = _
          rw [if_neg h2]; exact find_low hm.2.2 (by omega)
        unfold doAll doR
        rw [e]
        dsimp only
        by_cases k0 : r.k = 0
        · rw [if_pos k0, if_pos k0]
          show _ = doAll (if x.i < r.i then _ else if x.i = r.i then _ else newE r :: x :: M) R
          rw [if_neg h1, if_neg h2, all_cons (fun s hs => ⟨(later s hs).1, (later s hs).2⟩), apl_allN n (x :: M) R r.i (by simp; omega) ⟨by omega, hm.2⟩ hr.2.2.2]
        · rw [if_neg k0, if_neg k0]
theorem apl_all (M : List En) (R : List Rc) (a : Int) (hm : rise a M) (hr : asc a R) : apl M R = doAll M R := apl_allN _ M R a (Nat.lt_succ_self _) hm hr
/-- Behind the records the Ids rise still. -/
theorem do_rise {M N : List En} {r : Rc} (hm : rise (-1) M) (hc : chk r = 0) (h : doR M r = some N) : rise (-1) N := by
  have hb := chk_in hc
  unfold doR at h
  cases hf : findE r.i M with
  | none =>
    rw [hf] at h
    dsimp only at h
    split at h
    · cases h; exact rise_ins hb.2.2.2 hm (by show -1 < r.i; omega)
    · cases h
  | some x =>
    rw [hf] at h
    dsimp only at h
    split at h
    · cases h
    · split at h
      · cases h; exact rise_del _ hm
      · rename_i h0 h2
        cases h
        have hy := (app_same (x := x) hc (find_i hf).1.symm h0 h2).2
        exact rise_ins (by omega) hm (by omega)
theorem do_len {M N : List En} {r : Rc} (hm : rise (-1) M) (h : doR M r = some N) : N.length ≤ M.length + 1 := by
  unfold doR at h
  have l1 : ∀ e : En, (ins e M).length ≤ M.length + 1 := fun e => by rw [len_ins hm]; split <;> omega
  have l2 := len_del r.i M
  cases hf : findE r.i M with
  | none =>
    rw [hf] at h
    dsimp only at h
    split at h
    · cases h; exact l1 _
    · cases h
  | some x =>
    rw [hf] at h
    dsimp only at h
    split at h
    · cases h
    · split at h
      · cases h; omega
      · cases h; exact l1 _

/-! what tells one row by another -/
def genO (o : Option En) : Int := match o with
  | some a => a.g
  | none => 0
def reachB (o : Option En) (b : En) : Bool := b.g == genO o || (isO o && b.g == (genO o + 1) % 256)
def chgL (o : Option En) (b : En) : List Rc := match o with
  | none => [putR b]
  | some a => if entB a b = true then [] else [difR a b]
def conR (l : List Rc) : Option (List Rc × List En) → Option (List Rc × List En)
  | none => none
  | some p => some (l ++ p.1, p.2)
def conA (a : En) : Option (List Rc × List En) → Option (List Rc × List En)
  | none => none
  | some p => some (p.1, a :: p.2)
def telR : List En → List En → Option (List Rc × List En)
  | M, [] => some ([], M)
  | M, b :: bs => if reachB (findE b.i M) b = true then conR (chgL (findE b.i M) b) (telR (del b.i M) bs) else none
theorem tel_cons : ∀ {bs : List En} {a : En} {M : List En}, (∀ b ∈ bs, a.i < b.i) → telR (a :: M) bs = conA a (telR M bs)
  | [], _, _, _ => rfl
  | b :: bs, a, M, h => by
    have h1 := h b (by simp)
    have e1 : findE b.i (a :: M) = findE b.i M := by show (if a.i = b.i then _ else _) = _; rw [if_neg (by omega)]
    have e2 : del b.i (a :: M) = a :: del b.i M := by show (if a.i = b.i then _ else _) = _; rw [if_neg (by omega)]
    have ih := tel_cons (bs := bs) (a := a) (M := del b.i M) (fun x hx => h x (by simp [hx]))
    unfold telR
    rw [e1, e2, ih]
    split
    · cases telR (del b.i M) bs with
      | none => rfl
      | some p => rfl
    · rfl
/-- The Ids rise. -/
def up : Int → List Rc → Prop
  | _, [] => True
  | last, r :: rs => last < r.i ∧ up r.i rs
theorem up_mono : ∀ {R : List Rc} {a b : Int}, a ≤ b → up b R → up a R
  | [], _, _, _, _ => trivial
  | r :: R, a, b, h, h1 => ⟨by have := h1.1; omega, h1.2⟩
theorem up_lt : ∀ {R : List Rc} {a : Int}, up a R → ∀ r ∈ R, a < r.i
  | [], _, _, _, hr => by cases hr
  | s :: R, a, h, r, hr => by
    rcases List.mem_cons.1 hr with rfl | hr
    · exact h.1
    · have := up_lt h.2 r hr
      have := h.1
      omega
theorem up_pair : ∀ {R : List Rc} {a : Int}, up a R → R.Pairwise (fun x y => x.i < y.i)
  | [], _, _ => List.Pairwise.nil
  | e :: L, a, h => List.pairwise_cons.2 ⟨fun x hx => up_lt h.2 x hx, up_pair h.2⟩
theorem dif_i {a b : En} (h : entB a b = false) : (difR a b).i = b.i := by
  unfold difR
  rw [h, if_neg (by simp)]
  split <;> rfl
/-- What the rows' merge says of the records by the entities in order. -/
def TelM (last : Int) (o : Option (List Rc)) (t : Option (List Rc × List En)) : Prop :=
  match o with
  | none => t = none
  | some R => ∃ p, t = some p ∧ R.Perm (p.1 ++ p.2.map remR) ∧ up last R
theorem tel_step_a {last : Int} {a : En} {o : Option (List Rc)} {t : Option (List Rc × List En)} (h : TelM a.i o t) (hl : last < a.i) : TelM last (consO (remR a) o) (conA a t) := by
  cases o with
  | none => have h' : t = none := h; subst h'; exact rfl
  | some R =>
    obtain ⟨p, rfl, hp, hu⟩ := h
    refine ⟨_, rfl, ?_, hl, hu⟩
    show (remR a :: R).Perm (p.1 ++ (a :: p.2).map remR)
    rw [List.map_cons]
    exact (hp.cons _).trans List.perm_middle.symm
theorem tel_step_b {last : Int} {r : Rc} {o : Option (List Rc)} {t : Option (List Rc × List En)} (h : TelM r.i o t) (hl : last < r.i) : TelM last (consO r o) (conR [r] t) := by
  cases o with
  | none => have h' : t = none := h; subst h'; exact rfl
  | some R =>
    obtain ⟨p, rfl, hp, hu⟩ := h
    exact ⟨_, rfl, hp.cons _, hl, hu⟩
theorem tel_up {last b : Int} (hl : last ≤ b) {o : Option (List Rc)} {t : Option (List Rc × List En)} (h : TelM b o t) : TelM last o t := by
  cases o with
  | none => exact h
  | some R => obtain ⟨p, h1, h2, h3⟩ := h; exact ⟨p, h1, h2, up_mono hl h3⟩
theorem tel_mrgN : ∀ (n : Nat) (A B : List En) (last : Int), A.length + B.length < n → rise last A → rise last B → TelM last (mrg A B) (telR A B)
  | 0, _, _, _, h, _, _ => absurd h (Nat.not_lt_zero _)
  | n + 1, [], [], last, _, _, _ => by rw [mrg_nn]; exact ⟨_, rfl, List.Perm.refl _, trivial⟩
  | n + 1, a :: al, [], last, hn, ha, hb => by
    have ih := tel_mrgN n al [] a.i (by simp at hn ⊢; omega) ha.2.2 trivial
    rw [mrg_cn]
    have := tel_step_a ih ha.1
    exact this
  | n + 1, [], b :: bs, last, hn, ha, hb => by
    have ih := tel_mrgN n [] bs b.i (by simp at hn ⊢; omega) trivial hb.2.2
    rw [mrg_nc]
    unfold telR
    have e1 : findE b.i [] = none := rfl
    have e2 : reachB none b = (b.g == 0) := by unfold reachB isO genO; simp
    rw [e1, e2]
    by_cases h : b.g = 0
    · rw [if_neg (by simp [h]), if_pos (by simp [h])]
      exact tel_step_b (r := putR b) ih hb.1
    · rw [if_pos h, if_neg (by simp [h])]
      rfl
  | n + 1, a :: al, b :: bs, last, hn, ha, hb => by
    simp only [List.length_cons] at hn
    rw [mrg_cc]
    by_cases h1 : a.i < b.i
    · rw [if_pos h1]
      have ih := tel_mrgN n al (b :: bs) a.i (by simp; omega) ha.2.2 ⟨h1, hb.2⟩
      rw [tel_cons (fun x hx => by
        rcases List.mem_cons.1 hx with rfl | hx
        · exact h1
        · have := (rise_lt hb.2.2 x hx).1; omega)]
      exact tel_step_a ih ha.1
    · rw [if_neg h1]
      by_cases h2 : b.i < a.i
      · rw [if_pos h2]
        have ih := tel_mrgN n (a :: al) bs b.i (by simp; omega) ⟨h2, ha.2⟩ hb.2.2
        have hlow : rise b.i (a :: al) := ⟨h2, ha.2⟩
        have e1 : findE b.i (a :: al) = none := find_low hlow (Int.le_refl _)
        have e2 : reachB none b = (b.g == 0) := by unfold reachB isO genO; simp
        unfold telR
        rw [e1, e2, del_low hlow (Int.le_refl _)]
        by_cases h : b.g = 0
        · rw [if_neg (by simp [h]), if_pos (by simp [h])]
          exact tel_step_b (r := putR b) ih hb.1
        · rw [if_pos h, if_neg (by simp [h])]
          rfl
      · rw [if_neg h2]
        have h3 : a.i = b.i := by omega
        have e1 : findE b.i (a :: al) = some a := by show (if a.i = b.i then _ else _) = _; rw [if_pos h3]
        have e4 : del b.i (a :: al) = al := by show (if a.i = b.i then _ else _) = _; rw [if_pos h3]
        have ih := tel_mrgN n al bs b.i (by omega) (by rw [← h3]; exact ha.2.2) hb.2.2
        have e2 : reachB (some a) b = (b.g == a.g || b.g == (a.g + 1) % 256) := by unfold reachB isO genO; simp
        unfold telR
        rw [e1, e2, e4]
        by_cases hg : b.g ≠ a.g ∧ b.g ≠ (a.g + 1) % 256
        · have hb' : ¬ (b.g == a.g || b.g == (a.g + 1) % 256) = true := by
            intro q
            rw [Bool.or_eq_true] at q
            rcases q with q | q
            · exact hg.1 (by simpa using q)
            · exact hg.2 (by simpa using q)
          rw [if_pos hg, if_neg hb']; rfl
        · have hb' : (b.g == a.g || b.g == (a.g + 1) % 256) = true := by
            rw [Bool.or_eq_true]
            by_cases q : b.g = a.g
            · exact Or.inl (by simp [q])
            · exact Or.inr (by
                have : b.g = (a.g + 1) % 256 := by omega
                simp [this])
          rw [if_neg hg, if_pos hb']
          by_cases he : entB a b = true
          · rw [if_pos he]
            have ec : chgL (some a) b = [] := by show (if entB a b = true then _ else _) = _; rw [if_pos he]
            rw [ec]
            have en : conR [] (telR al bs) = telR al bs := by cases telR al bs <;> rfl
            rw [en]
            exact tel_up (by have := hb.1; omega) ih
          · rw [if_neg he]
            have hef : entB a b = false := by simpa using he
            have ec : chgL (some a) b = [difR a b] := by show (if entB a b = true then _ else _) = _; rw [if_neg he]
            rw [ec]
            exact tel_step_b (r := difR a b) (by rw [dif_i hef]; exact ih) (by rw [dif_i hef]; exact hb.1)
theorem tel_mrg (A B : List En) (last : Int) (ha : rise last A) (hb : rise last B) : TelM last (mrg A B) (telR A B) := tel_mrgN _ A B last (Nat.lt_succ_self _) ha hb
theorem mrg_nil : ∀ (L : List En), mrg [] L = if ∃ x ∈ L, x.g ≠ 0 then none else some (L.map putR)
  | [] => by rw [mrg_nn]; simp
  | b :: bs => by
    have ih := mrg_nil bs
    rw [mrg_nc]
    by_cases h : b.g = 0
    · rw [if_neg (by simp [h]), ih]
      by_cases h2 : ∃ x ∈ bs, x.g ≠ 0
      · rw [if_pos h2, if_pos (by obtain ⟨x, hx, hg⟩ := h2; exact ⟨x, by simp [hx], hg⟩)]; rfl
      · rw [if_neg h2, if_neg (by rintro ⟨x, hx, hg⟩; rcases List.mem_cons.1 hx with rfl | hx; exact hg h; exact h2 ⟨x, hx, hg⟩)]; rfl
    · rw [if_pos h, if_pos ⟨b, by simp, h⟩]
/-- A row by rising Ids is the only sorted one of its records. -/
theorem up_only {R S : List Rc} {a : Int} (hu : up a R) (hp : R.Perm S) (hs : S.Pairwise (fun x y => x.i ≤ y.i)) : S = R := by
  refine (List.Perm.eq_of_pairwise (le := fun x y : Rc => x.i ≤ y.i) (fun x y hx hy h1 h2 => ?_) ((up_pair hu).imp (fun {a b} h => by omega)) hs hp).symm
  have hy' : y ∈ R := hp.mem_iff.2 hy
  have he : x.i = y.i := by omega
  have key : ∀ {R : List Rc} {a : Int}, up a R → ∀ x ∈ R, ∀ y ∈ R, x.i = y.i → x = y := by
    intro R
    induction R with
    | nil => intro a _ x hx; cases hx
    | cons r R ih =>
      intro a h x hx y hy he
      rcases List.mem_cons.1 hx with e1 | hx' <;> rcases List.mem_cons.1 hy with e2 | hy'
      · rw [e1, e2]
      · have := up_lt h.2 _ hy'; subst e1; omega
      · have := up_lt h.2 _ hx'; subst e2; omega
      · exact ih h.2 x hx' y hy' he
  exact key hu x hx y hy' he
theorem rise_inj : ∀ {L : List En} {a : Int}, rise a L → ∀ x ∈ L, ∀ y ∈ L, x.i = y.i → x = y := by
  intro L a h x hx y hy he
  have h1 := find_mem h x hx
  have h2 := find_mem h y hy
  rw [he, h2] at h1
  cases h1; rfl
theorem rise_only {R S : List En} {a : Int} (hu : rise a R) (hp : R.Perm S) (hs : S.Pairwise (fun x y => x.i ≤ y.i)) : S = R := by
  refine (List.Perm.eq_of_pairwise (le := fun x y : En => x.i ≤ y.i) (fun x y hx hy h1 h2 => ?_) ((rise_pair hu).imp (fun {a b} h => by omega)) hs hp).symm
  exact rise_inj hu x hx y (hp.mem_iff.2 hy) (by omega)
end Go.Proofs.Ytpamjalgcloehaa
