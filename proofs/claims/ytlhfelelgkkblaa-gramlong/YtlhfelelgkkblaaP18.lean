/-
  Texts Gm7, Fr9, Gm8, Gm9 in one.
-/
import Derived.Deep.RegionHeld3
import Derived.Test.YtlhfelelgkkblaaP17
namespace Go.Proofs.Ytlhfelelgkkblaa
open Go.RowKit
set_option linter.unusedVariables false
set_option maxRecDepth 8000

theorem dg_checks (w : World) (g : Gm) (ok : g.ok) (v : Value) (n : Nat) (A : Nat → Rc) (hA : ∀ i, i < n → (A i).ok) (hv : RdR w v n A) :
    Calls Try.prog 13 #[gmV g v] w fun e w' => e = .returned (.int .i64 (gmE g A n)) ∧ Below w.heap.size w w' := by
  have HB : Hid (∀ w', Below w.heap.size w w' → Calls Try.prog 22 #[gmV g v] w' fun e w'' => ∃ u, e = .returned (.tuple #[u, .int .i64 (gmE g A n)]) ∧ Own w'' w'.heap.size u (bodB g A n) ∧ Below w'.heap.size w' w'') := fun w' h => dg_body w' g ok v n A hA (hv.below h)
  obtain ⟨ge, ege⟩ : ∃ x, gmE g A n = x := ⟨_, rfl⟩
  rw [ege] at HB
  rw [ege]
  clear ege hA ok
  obtain ⟨ao, cap, rfl, hc, hm, _⟩ := hv
  obtain ⟨t, m, b⟩ := g
  go_enter Try.func13, Try.ntmps13
  go_wp2_with fail
  generalize hW : w.alloc (.cells #[.int .i64 t, .int .i64 m, .int .i64 b, .slice ao n cap] 24) = W
  obtain ⟨A0, b0, _⟩ := boxed hW
  clear hW
  refine (HB.out _ b0).mono ?_; rintro e w1 ⟨u1, rfl, _, g1⟩
  have b1 := bup b0 (Nat.le_refl _) g1
  go_wp2_with fail
  go_ret
  exact ⟨rfl, b1⟩
set_option maxHeartbeats 1000000 in
set_option maxRecDepth 60000 in
theorem dg_write (w : World) (g : Gm) (ok : g.ok) (v : Value) (n : Nat) (A : Nat → Rc) (hA : ∀ i, i < n → (A i).ok) (hv : RdR w v n A) :
    Calls Try.prog 11 #[gmV g v] w fun e w' => ∃ u, e = .returned (.tuple #[u, .int .i64 (wrtE g A n)]) ∧ Own w' w.heap.size u (wrtB g A n) ∧ Below w.heap.size w w' := by
  have HB : Hid (∀ w', Below w.heap.size w w' → Calls Try.prog 22 #[gmV g v] w' fun e w'' => ∃ u, e = .returned (.tuple #[u, .int .i64 (gmE g A n)]) ∧ Own w'' w'.heap.size u (bodB g A n) ∧ Below w'.heap.size w' w'') := fun w' h => dg_body w' g ok v n A hA (hv.below h)
  have BO : Hid (Bytes (bodB g A n)) := (bodB_ok hA).1
  have BL := (bodB_ok (g := g) hA).2
  have NO : Hid (gmE g A n ≠ 0 → wrtE g A n = gmE g A n ∧ wrtB g A n = []) := fun h => by
    have e : wrtE g A n = gmE g A n := by unfold wrtE; rw [if_neg h]
    exact ⟨e, by unfold wrtB; rw [if_neg (by rw [e]; exact h)]⟩
  have LO : Hid (gmE g A n = 0 → 4096 < (bodB g A n).length + 4 → wrtE g A n = 8 ∧ wrtB g A n = []) := fun h h2 => by
    have eb : bodB g A n = gmB g A n := by unfold bodB; rw [if_pos h]
    rw [eb] at h2
    have e : wrtE g A n = 8 := by unfold wrtE; rw [if_pos h, if_pos h2]
    exact ⟨e, by unfold wrtB; rw [if_neg (by rw [e]; omega)]⟩
  have YE : Hid (gmE g A n = 0 → ¬ 4096 < (bodB g A n).length + 4 → wrtE g A n = 0 ∧ wrtB g A n = bodB g A n ++ four (sum (bodB g A n))) := fun h h2 => by
    have eb : bodB g A n = gmB g A n := by unfold bodB; rw [if_pos h]
    rw [eb] at h2 ⊢
    have e : wrtE g A n = 0 := by unfold wrtE; rw [if_pos h, if_neg h2]
    exact ⟨e, by unfold wrtB; rw [if_pos e]; rfl⟩
  obtain ⟨ge, ege⟩ : ∃ x, gmE g A n = x := ⟨_, rfl⟩
  obtain ⟨bd, ebd⟩ : ∃ x, bodB g A n = x := ⟨_, rfl⟩
  obtain ⟨we, ewe⟩ : ∃ x, wrtE g A n = x := ⟨_, rfl⟩
  obtain ⟨wb, ewb⟩ : ∃ x, wrtB g A n = x := ⟨_, rfl⟩
  rw [ege, ebd] at HB
  rw [ebd] at BO BL
  rw [ege, ewe, ewb] at NO
  rw [ege, ebd, ewe, ewb] at LO YE
  rw [ewe, ewb]
  clear ege ebd ewe ewb hA ok
  obtain ⟨ao, cap, rfl, hc, hm, _⟩ := hv
  obtain ⟨t, m, b⟩ := g
  obtain ⟨N, hN⟩ : ∃ x, bd.length = x := ⟨_, rfl⟩
  have HN : Hid (bd.length = N) := hN
  have NB : N ≤ 8746 := by omega
  rw [hN] at LO YE
  clear hN BL
  go_enter Try.func11, Try.ntmps11
  go_wp2_with fail
  generalize hW : w.alloc (.cells #[.int .i64 t, .int .i64 m, .int .i64 b, .slice ao n cap] 24) = W
  obtain ⟨A0, b0, _⟩ := boxed hW
  clear hW
  refine (HB.out _ b0).mono ?_; rintro e w1 ⟨u1, rfl, own1, g1⟩
  have b1 := bup b0 (Nat.le_refl _) g1
  clear A0 b0 g1
  by_cases hz : ge = 0
  · subst hz
    have O1 : Hid (Own w1 W.heap.size u1 bd) := own1
    obtain ⟨ao2, cap2, e2, _⟩ := own1.rd
    rw [HN.out] at e2
    subst e2
    clear own1
    by_cases hg : 4092 < N
    · obtain ⟨y1, y2⟩ := LO.out (by trivial) (by omega)
      subst y1 y2
      clear LO YE NO HB O1
      go_wp2_with fail
      go_ret2
      exact ⟨_, rfl, Own.nil _ _, b1⟩
    · obtain ⟨y1, y2⟩ := YE.out (by trivial) (by omega)
      subst y1
      have Y2 : Hid (wb = bd ++ four (sum bd)) := y2
      clear LO YE NO HB y2
      go_wp2_with fail
      refine (rseal_any _ _ bd BO.out O1.out.rd (by rw [HN.out]; omega)).mono ?_; rintro e w2 ⟨u2, rfl, own2, g2⟩
      have b2 := bup b1 (Nat.le_refl _) g2
      have O2 : Hid (Own w2 w.heap.size u2 (bd ++ four (sum bd))) := own2.mono b1.size
      clear own2 b1 g2 O1
      go_wp2_with fail
      go_ret2
      exact ⟨_, rfl, by rw [Y2.out]; exact O2.out, b2⟩
  · obtain ⟨y1, y2⟩ := NO.out hz
    have heq : (ge == 0) = false := by simp [hz]
    subst y1 y2
    clear LO YE NO HB own1
    go_wp2_with fail
    go_ret2
    exact ⟨_, rfl, Own.nil _ _, b1⟩

/-! the example -/
abbrev exG : Gm := ⟨0, 0, -1⟩
abbrev exL : List Int := [71, 1, 0, 0, 0, 0]
theorem exG_ok : exG.ok := ⟨by unfold S64; simp only; omega, by unfold S64; simp only; omega, by unfold S64; simp only; omega⟩
theorem exG_b : gmB exG (fun _ => noRec) 0 = exL := by
  unfold gmB hedB bkI
  simp [pre, encR, zig, put_lo]
theorem exG_h : hedE exG 0 = 0 := by unfold hedE timB; simp
theorem exG_g : gmE exG (fun _ => noRec) 0 = 0 := by unfold gmE; rw [if_pos exG_h]; rfl
theorem exG_e : wrtE exG (fun _ => noRec) 0 = 0 := by unfold wrtE; rw [if_pos exG_g, exG_b]; decide
theorem exG_w : wrtB exG (fun _ => noRec) 0 = sealed exL := by unfold wrtB; rw [if_pos exG_e, exG_b]
theorem exL_ok : Bytes exL := by intro c hc; simp at hc; omega
theorem RdR.none (w : World) : RdR w (.slice .none 0 0) 0 (fun _ => noRec) := ⟨.none, 0, rfl, Nat.le_refl _, by omega, Or.inl rfl⟩
set_option maxHeartbeats 1000000 in
theorem gm_alive (w : World) : Calls Try.prog 9 #[] w fun e w' => e = .returned (.bool true) ∧ Below w.heap.size w w' := by
  go_enter Try.func9, Try.ntmps9
  go_wp2_with fail
  refine (gm_write _ exG exG_ok (.slice none 0 0) 0 (fun _ => noRec) (fun i h => absurd h (by omega)) (RdR.none _)).mono ?_; rw [exG_e, exG_w]; rintro e w1 ⟨v1, rfl, own1, b1⟩
  have R1 : Hid (Rd w1 v1 (sealed exL)) := own1.rd
  clear own1
  go_wp2_with fail
  refine (open_any _ v1 (sealed exL) (sealed_ok exL_ok) R1.out (by rw [sealed_len]; decide)).mono ?_; rw [sealed_open, sealed_opened]; rintro e w2 ⟨v2, rfl, own2, b2⟩
  have str2 := str_run own2.rd
  have st2 : strOfNums [71, 1, 0, 0, 0, 0] = ⟨#[71, 1, 0, 0, 0, 0]⟩ := by decide
  rw [st2] at str2
  clear own2 st2 R1
  go_wp2_with (go_at_call 20; refine (gm_most _).mono ?_; rintro e w3 ⟨rfl, rfl⟩)
  go_ret
  exact ⟨rfl, bthen b1 b2⟩
/-- Records that the call owns are read, by their places. -/
theorem OwnR.rdR {w : World} {B : Nat} {v : Value} {L : List Rc} (h : OwnR w B v L) : RdR w v L.length (fun i => L.getD i noRec) := by
  by_cases hl : L = []
  · subst hl
    rcases h.2 with ⟨e, _⟩ | ⟨g, cap, cur, hv, hb, hg, hc, hm, hs, ht⟩
    · subst e
      exact ⟨none, 0, rfl, Nat.le_refl _, by omega, Or.inl rfl⟩
    · subst hv
      exact ⟨_, cap, rfl, hc, hm, Or.inl rfl⟩
  · obtain ⟨g, cap, rfl, h1, h2, h3, h4, h5⟩ := h.cells hl
    exact ⟨_, cap, rfl, h3, h4, Or.inr ⟨g, 0, rfl, fun i hi j x hx => by simpa using h5 i hi j x hx⟩⟩
end Go.Proofs.Ytlhfelelgkkblaa

namespace Go.Proofs.Ytlhfelelgkkblaa
open Go.ChangeShapes Go.WideShapes Go.ChangeAt Go.RowKit Go.Joins
set_option linter.unusedVariables false
variable {H : Type} {enc : TypeId × Value → H}

theorem trod_struct4 {P : Program} {w : World} {base : Nat} {spare : Nat → Bool} {held : Bool} {t : TypeId} {f0 f1 f2 f3 : Field} {fuel : Nat} {cs : List Value} {x : DataW H × List MemPlace} (ht : P.underlying t = some (.struct #[f0, f1, f2, f3])) (h : DataW.trod enc P w base spare held fuel t cs = some x) :
    ∃ y0 y1 y2 y3 n, cs.length = P.cellsOf t ∧
      DataW.trod enc P w base spare held n f0.type ((cs.drop f0.offset).take (P.cellsOf f0.type)) = some y0 ∧ DataW.trod enc P w base spare held n f1.type ((cs.drop f1.offset).take (P.cellsOf f1.type)) = some y1 ∧
      DataW.trod enc P w base spare held n f2.type ((cs.drop f2.offset).take (P.cellsOf f2.type)) = some y2 ∧ DataW.trod enc P w base spare held n f3.type ((cs.drop f3.offset).take (P.cellsOf f3.type)) = some y3 := by
  obtain ⟨xs, n, _, rfl, hl, hlen, hf⟩ := DataW.trod_struct ht h
  match xs, hlen with
  | [y0, y1, y2, y3], _ => exact ⟨y0, y1, y2, y3, n, hl, by simpa using hf 0 f0 rfl, by simpa using hf 1 f1 rfl, by simpa using hf 2 f2 rfl, by simpa using hf 3 f3 rfl⟩
theorem cells_gram : Try.prog.cellsOf 24 = 4 := by kernel_rfl
theorem cells_recs : Try.prog.cellsOf 22 = 1 := by kernel_rfl
set_option maxRecDepth 20000 in
theorem trod_recs {W : World} {fuel : Nat} {cs : List Value} {x : DataW H × List MemPlace} (hf : DataW.trod enc Try.prog W 0 (fun _ => true) true fuel 22 cs = some x) :
    ∃ (v : Value) (n : Nat) (A : Nat → Rc), cs = [v] ∧ (∀ i, i < n → (A i).ok) ∧ RdR W v n A := by
  rcases Go.Deep.open_slice Try.underlying22 hf with ⟨hcs, hx⟩ | ⟨a, len2, cap, m, n, D, Pl, hcs, _, hl, hm, hmm, hx, hel⟩
  · exact ⟨_, 0, fun _ => noRec, hcs, fun i hi => by omega, none, 0, rfl, Nat.le_refl _, by omega, Or.inl rfl⟩
  · simp only [if_true] at hmm
    subst hmm
    rw [cells_rec] at hel
    have each : ∀ i, i < m → ∃ r : Rc, (∀ j x, (recC r)[j]? = some x → W.cell? (a.add (i * 9 + j)) = some x) ∧ r.ok := by
      intro i hi
      obtain ⟨cs', h1, h2⟩ := hel i hi
      obtain ⟨_, hlen, hcell⟩ := World.cells?_some h1
      obtain ⟨r, rfl, ok⟩ := trod_rec h2
      refine ⟨r, fun j x hj => ?_, ok⟩
      have hj' : j < 9 := (List.getElem?_eq_some_iff.1 hj).1
      have c := hcell j (by exact hj')
      rw [Go.Deep.add_add] at c
      rw [c]; exact hj
    haveI : Inhabited Rc := ⟨noRec⟩
    obtain ⟨A, hA⟩ := Go.Deep.choose_lt each
    refine ⟨_, len2, A, hcs, fun i hi => (hA i (by omega)).2, some a, m, rfl, hl, hm, ?_⟩
    by_cases h0 : len2 = 0
    · exact Or.inl h0
    · right
      obtain ⟨ab, ao, spot⟩ := a
      have hspot : spot = none := by simpa [Addr.add] using World.cell?_spot ((hA 0 (by omega)).1 0 _ rfl)
      subst hspot
      refine ⟨ab, ao, rfl, fun i hi j x hj => ?_⟩
      have := (hA i (by omega)).1 j x hj
      simp only [Addr.add_lit] at this
      rw [Nat.add_assoc]; exact this
set_option maxRecDepth 20000 in
theorem trod_gram {w : World} {fuel : Nat} {cs : List Value} {x : DataW H × List MemPlace} (h : DataW.trod enc Try.prog w 0 (fun _ => true) true fuel 24 cs = some x) :
    ∃ (g : Gm) (u : Value) (n : Nat) (A : Nat → Rc), cs = gmC g u ∧ g.ok ∧ (∀ i, i < n → (A i).ok) ∧ RdR w u n A := by
  obtain ⟨y0, y1, y2, y3, n, hl, g0, g1, g2, g3⟩ := trod_struct4 Try.underlying24 h
  rw [cells_gram] at hl
  match cs, hl with
  | [c0, c1, c2, c3], _ =>
    simp [cells_i64, cells_recs] at g0 g1 g2 g3
    obtain ⟨z0, e0, _, w0⟩ := DataW.trod_int Try.underlying2 g0
    obtain ⟨z1, e1, _, w1⟩ := DataW.trod_int Try.underlying2 g1
    obtain ⟨z2, e2, _, w2⟩ := DataW.trod_int Try.underlying2 g2
    obtain ⟨u, k, A, e3, hA, hr⟩ := trod_recs g3
    simp at e0 e1 e2 e3
    subst e0 e1 e2 e3
    exact ⟨⟨z0, z1, z2⟩, _, k, A, rfl, ⟨wf_i64 w0, wf_i64 w1, wf_i64 w2⟩, hA, hr⟩
set_option maxRecDepth 20000 in
theorem open_gram {W : World} {base : Nat} {v : Value} {d : DataW H} {p : List MemPlace} (hval : Value.okWide Try.prog W .any base 24 v) (h : DataW.Trod enc Try.prog W 0 (fun _ => true) true 24 v d p) :
    ∃ (g : Gm) (u : Value) (n : Nat) (A : Nat → Rc), v = gmV g u ∧ g.ok ∧ (∀ i, i < n → (A i).ok) ∧ RdR W u n A := by
  obtain ⟨cs, rfl, _⟩ := okWide_struct Try.underlying24 hval
  obtain ⟨fuel, hf⟩ := h
  obtain ⟨g, u, n, A, e, ok, hA, hr⟩ := trod_gram hf
  refine ⟨g, u, n, A, ?_, ok, hA, hr⟩
  have : cs = (gmC g u).toArray := by simpa [Value.cells] using congrArg List.toArray e
  rw [this]
end Go.Proofs.Ytlhfelelgkkblaa

namespace Go.Proofs.Ytlhfelelgkkblaa
open Go.RowKit
set_option linter.unusedVariables false

def sameS (c : Int) (s : St) : St := if byteA s = c then byteS s else failS (byteS s) 7
def timS (s : St) : St := if timB (intA s) = true then intS s else failS (intS s) 3
theorem lastB_of {x : Int} (h0 : -1 ≤ x) (h1 : x ≤ 65535) : lastB x = true := by unfold lastB; simp; omega
theorem red_e {s : St} {last : Int} (h : lastB last = true) : redE s last = (redS s last).e := by unfold redE redS; rw [if_pos h, if_pos h]
theorem uintA_le {m : Int} (h : 0 ≤ m) (s : St) : uintA m s ≤ m := by
  unfold uintA
  by_cases h0 : s.e = 0
  · rw [if_pos h0]
    by_cases h1 : uintE m s.l = 0
    · rw [if_pos h1]
      unfold uintE at h1
      split at h1
      · omega
      · split at h1
        · split at h1 <;> omega
        · omega
    · rw [if_neg h1]; exact h
  · rw [if_neg h0]; exact h

/-! records, one behind the other: how the reader stands, and those that were read -/
def rowS (s : St) : Nat → St × List Rc
  | 0 => (s, [])
  | k + 1 => if (rowS s k).1.e = 0 then (redS (rowS s k).1 (lastR (-1) (rowS s k).2), if redE (rowS s k).1 (lastR (-1) (rowS s k).2) = 0 then (rowS s k).2 ++ [redT (rowS s k).1 (lastR (-1) (rowS s k).2)] else (rowS s k).2) else rowS s k
theorem rowS_no {s : St} {k : Nat} (h : (rowS s k).1.e ≠ 0) : rowS s (k + 1) = rowS s k := by
  show (if _ then _ else _) = _
  rw [if_neg h]
theorem rowS_stuck {s : St} {k : Nat} (h : (rowS s k).1.e ≠ 0) : ∀ j, rowS s (k + j) = rowS s k
  | 0 => rfl
  | j + 1 => by
    have ih := rowS_stuck h j
    rw [← Nat.add_assoc, rowS_no (by rw [ih]; exact h), ih]
theorem rowS_one {s : St} {k : Nat} (h : (rowS s k).1.e = 0) : rowS s (k + 1) = (redS (rowS s k).1 (lastR (-1) (rowS s k).2), if redE (rowS s k).1 (lastR (-1) (rowS s k).2) = 0 then (rowS s k).2 ++ [redT (rowS s k).1 (lastR (-1) (rowS s k).2)] else (rowS s k).2) := by
  show (if _ then _ else _) = _
  rw [if_pos h]
theorem rowS_ok {s : St} (hb : Bytes s.l) : ∀ k, chainR (-1) (rowS s k).2 ∧ (rowS s k).2.length ≤ k ∧ ((rowS s k).1.e = 0 → (rowS s k).2.length = k ∧ Tk s (rowS s k).1 (encR (-1) (rowS s k).2))
  | 0 => ⟨trivial, Nat.le_refl _, fun h => ⟨rfl, Tk.refl h⟩⟩
  | k + 1 => by
    obtain ⟨h1, h2, h3⟩ := rowS_ok hb k
    by_cases he : (rowS s k).1.e = 0
    · rw [rowS_one he]
      obtain ⟨h4, h5⟩ := h3 he
      have lb := lastR_bd _ _ h1 (by omega) (by omega)
      by_cases hr : redE (rowS s k).1 (lastR (-1) (rowS s k).2) = 0
      · rw [if_pos hr]
        obtain ⟨o1, o2, o3⟩ := one_read (h5.bytes hb) hr
        refine ⟨chainR_snoc _ _ _ h1 o1 o2, by rw [List.length_append]; simp; omega, fun _ => ⟨by rw [List.length_append]; simp; omega, ?_⟩⟩
        simp only
        rw [encR_snoc]
        exact h5.trans o3
      · rw [if_neg hr]
        refine ⟨h1, by simp only; omega, fun h => absurd h ?_⟩
        simp only
        rw [← red_e (lastB_of lb.1 lb.2)]
        exact hr
    · rw [rowS_no he]
      exact ⟨h1, by omega, fun h => absurd h he⟩

/-! the whole -/
def rA (l : List Int) : St := sameS 1 (sameS 71 ⟨l, 0, 0⟩)
def rT (l : List Int) : Int := uintA 4294967295 (rA l)
def rB (l : List Int) : St := uintS 4294967295 (rA l)
def rM (l : List Int) : Int := intA (rB l)
def rC (l : List Int) : St := timS (rB l)
def rG (l : List Int) : Int := uintA (rT l) (rC l)
def rD (l : List Int) : St := uintS (rT l) (rC l)
def rP (l : List Int) : Int := if 0 < rG l then rT l - rG l else -1
def rN (l : List Int) : Int := uintA 128 (rD l)
def rQ (l : List Int) : St := uintS 128 (rD l)
def rF (l : List Int) : St × List Rc := rowS (rQ l) (rN l).toNat
def opE (l : List Int) : Int := doneA (rF l).1
def rgE (b : List Int) : Int := if 4096 < b.length then 8 else if openB b = true then opE (opened b) else 9
def rgG (b : List Int) : Gm := if rgE b = 0 then ⟨rT (opened b), rM (opened b), rP (opened b)⟩ else ⟨0, 0, 0⟩
def rgL (b : List Int) : List Rc := if rgE b = 0 then (rF (opened b)).2 else []
theorem rT_bd (l : List Int) : 0 ≤ rT l ∧ rT l ≤ 4294967295 := ⟨(uintA_bd _ _).1, uintA_le (by omega) _⟩
theorem rG_bd (l : List Int) : 0 ≤ rG l ∧ rG l ≤ rT l := ⟨(uintA_bd _ _).1, uintA_le (rT_bd l).1 _⟩
theorem rN_bd (l : List Int) : 0 ≤ rN l ∧ rN l ≤ 128 := ⟨(uintA_bd _ _).1, uintA_le (by omega) _⟩

theorem took_same {c : Int} {s : St} (hb : Bytes s.l) (h : (sameS c s).e = 0) : Tk s (sameS c s) [c] := by
  unfold sameS at h ⊢
  split at h
  · rename_i hc
    rw [if_pos hc]
    have t := took_byte hb h
    rw [hc] at t
    exact t
  · exact absurd h (fail_ne (by omega))
theorem stuck_same {c : Int} {s : St} (h : (sameS c s).e = 0) : s.e = 0 := by
  unfold sameS at h
  split at h
  · exact stuck_byte h
  · exact absurd h (fail_ne (by omega))
theorem took_tim {s : St} (hb : Bytes s.l) (h : (timS s).e = 0) : Tk s (timS s) (put (zig (intA s))) ∧ timB (intA s) = true := by
  unfold timS at h ⊢
  split at h
  · rename_i hc
    rw [if_pos hc]
    exact ⟨(took_int hb h).1, hc⟩
  · exact absurd h (fail_ne (by omega))
theorem done_ok {s : St} (h : doneA s = 0) : s.e = 0 ∧ s.l = [] := by
  unfold doneA at h
  split at h
  · rename_i he
    split at h
    · rename_i hl
      exact ⟨he, hl⟩
    · omega
  · rename_i he
    exact absurd h he

/-- A datagram that is read is written as those bytes. -/
theorem op_one {l : List Int} (hb : Bytes l) (h : opE l = 0) :
    l = hedB ⟨rT l, rM l, rP l⟩ (rF l).2.length ++ encR (-1) (rF l).2 ∧ hedE ⟨rT l, rM l, rP l⟩ (rF l).2.length = 0 ∧ chainR (-1) (rF l).2 := by
  obtain ⟨h1, h2⟩ := done_ok h
  have eF : rF l = rowS (rQ l) (rN l).toNat := rfl
  have nb := rN_bd l
  have tb := rT_bd l
  have gb := rG_bd l
  have key : ∃ (a : Tk (⟨l, 0, 0⟩ : St) (rQ l) ([71] ++ [1] ++ put (rT l) ++ put (zig (rM l)) ++ put (rG l) ++ put (rN l))), timB (rM l) = true := by
    -- from the end to the front, that nothing had failed
    have stuckRow : ∀ k, (rowS (rQ l) k).1.e = 0 → (rQ l).e = 0 := by
      intro k hk
      by_cases he : (rQ l).e = 0
      · exact he
      · have := rowS_stuck (s := rQ l) (k := 0) he k
        rw [Nat.zero_add] at this
        rw [this] at hk
        exact hk
    have hQ : (rQ l).e = 0 := stuckRow _ (by rw [← eF]; exact h1)
    have hD : (rD l).e = 0 := stuck_uint hQ
    have hC : (rC l).e = 0 := stuck_uint hD
    have hB : (rB l).e = 0 := by
      have hC' := hC
      unfold rC timS at hC'
      split at hC'
      · exact stuck_int hC'
      · exact absurd hC' (fail_ne (by omega))
    have hA : (rA l).e = 0 := stuck_uint hB
    have hA1 : (sameS 71 (⟨l, 0, 0⟩ : St)).e = 0 := stuck_same (c := 1) hA
    have t1 := took_same (c := 71) (s := ⟨l, 0, 0⟩) hb hA1
    have t2 : Tk _ (rA l) _ := took_same (t1.bytes hb) hA
    have t12 := t1.trans t2
    have t3 : Tk _ (rB l) _ := took_uint (t12.bytes hb) hB
    have t13 := t12.trans t3
    have t4 := took_tim (t13.bytes hb) hC
    have t14 : Tk _ (rC l) _ := t13.trans t4.1
    have t5 : Tk _ (rD l) _ := took_uint (t14.bytes hb) hD
    have t15 := t14.trans t5
    have t6 : Tk _ (rQ l) _ := took_uint (t15.bytes hb) hQ
    exact ⟨t15.trans t6, t4.2⟩
  obtain ⟨t, tm⟩ := key
  have ro := rowS_ok (t.bytes hb) (rN l).toNat
  rw [← eF] at ro
  obtain ⟨c1, c2, c3⟩ := ro
  obtain ⟨c4, c5⟩ := c3 h1
  have w := (t.trans c5).l
  rw [h2, List.append_nil] at w
  have eb : bkI ⟨rT l, rM l, rP l⟩ = rG l := by
    unfold bkI rP
    simp only
    split
    · split at * <;> omega
    · split at * <;> omega
  have en : ((rF l).2.length : Int) = rN l := by rw [c4]; omega
  refine ⟨?_, ?_, c1⟩
  · simp only at w
    unfold hedB
    rw [eb, en]
    exact w
  · unfold hedE
    simp only
    rw [tm]
    rw [if_neg (by unfold rP; split <;> simp <;> omega), if_neg (by unfold rP; split <;> omega), if_neg (by omega)]

/-! the other way about -/
theorem rowS_fwd (L : List Rc) (hc : chainR (-1) L) (rest : List Int) (m : Int) : ∀ k, k ≤ L.length → ∃ m', rowS ⟨encR (-1) L ++ rest, m, 0⟩ k = (⟨encR (lastR (-1) (L.take k)) (L.drop k) ++ rest, m', 0⟩, L.take k)
  | 0, _ => ⟨m, by simp [rowS, lastR]⟩
  | k + 1, h => by
    obtain ⟨m', e⟩ := rowS_fwd L hc rest m k (by omega)
    rw [rowS_one (by rw [e]), e]
    have d := drop_cons (L := L) (j := k) (by omega)
    have cd := chainR_drop L (-1) k hc
    have tk : L.take (k + 1) = L.take k ++ [L.getD k noRec] := by
      rw [List.take_add_one]
      congr 1
      have : k < L.length := by omega
      simp [List.getD, List.getElem?_eq_getElem this]
    have lt := lastR_take L (-1) k (by omega)
    rw [d] at cd
    obtain ⟨o1, o2, o3⟩ := cd
    have w := wr_read o1 o2 (encR (L.getD k noRec).i (L.drop (k + 1)) ++ rest) m'
    have eb : encR (lastR (-1) (L.take k)) (L.drop k) ++ rest = wrB (L.getD k noRec) (lastR (-1) (L.take k)) ++ (encR (L.getD k noRec).i (L.drop (k + 1)) ++ rest) := by
      rw [d, ← List.append_assoc]
      rfl
    simp only
    rw [eb, w.1, w.2.1, w.2.2, if_pos rfl, ← tk, lt]
    exact ⟨_, rfl⟩
theorem same_ok (c : Int) (r : List Int) (n : Int) : sameS c ⟨c :: r, n, 0⟩ = ⟨r, n + 1, 0⟩ := by
  have b := rd_byte (b := c) r n
  unfold sameS
  rw [if_pos b.1, b.2]
theorem op_fwd {g : Gm} {L : List Rc} (h : hedE g L.length = 0) (hc : chainR (-1) L) (rest : List Int) :
    ∃ m', rF (hedB g L.length ++ encR (-1) L ++ rest) = (⟨rest, m', 0⟩, L) ∧ rT (hedB g L.length ++ encR (-1) L ++ rest) = g.t ∧ rM (hedB g L.length ++ encR (-1) L ++ rest) = g.m ∧ rP (hedB g L.length ++ encR (-1) L ++ rest) = g.b := by
  have ho := hed_ok h
  have bk := bk_bd h
  obtain ⟨l, hl⟩ : ∃ l, hedB g L.length ++ encR (-1) L ++ rest = l := ⟨_, rfl⟩
  have e : l = 71 :: (1 :: (put g.t ++ (put (zig g.m) ++ (put (bkI g) ++ (put (L.length : Int) ++ (encR (-1) L ++ rest)))))) := by
    rw [← hl]; unfold hedB; simp
  rw [hl]
  have eA : ∃ n, rA l = ⟨put g.t ++ (put (zig g.m) ++ (put (bkI g) ++ (put (L.length : Int) ++ (encR (-1) L ++ rest)))), n, 0⟩ := by
    unfold rA
    rw [e, same_ok, same_ok]
    exact ⟨_, rfl⟩
  obtain ⟨n1, eA⟩ := eA
  have u1 := rd_uint (x := g.t) (m := 4294967295) (by omega) (by omega) (by omega) (put (zig g.m) ++ (put (bkI g) ++ (put (L.length : Int) ++ (encR (-1) L ++ rest)))) n1
  have eT : rT l = g.t := by unfold rT; rw [eA]; exact u1.1
  have eB : rB l = ⟨put (zig g.m) ++ (put (bkI g) ++ (put (L.length : Int) ++ (encR (-1) L ++ rest))), n1 + (put g.t).length, 0⟩ := by unfold rB; rw [eA]; exact u1.2
  have u2 := rd_int (x := g.m) (by unfold S64; omega) (put (bkI g) ++ (put (L.length : Int) ++ (encR (-1) L ++ rest))) (n1 + (put g.t).length)
  have eM : rM l = g.m := by unfold rM; rw [eB]; exact u2.1
  have eC : rC l = ⟨put (bkI g) ++ (put (L.length : Int) ++ (encR (-1) L ++ rest)), n1 + (put g.t).length + (put (zig g.m)).length, 0⟩ := by
    unfold rC timS
    rw [eB, if_pos (by rw [u2.1]; unfold timB; simp; omega)]
    exact u2.2
  have u3 := rd_uint (x := bkI g) (m := g.t) (by omega) (by omega) (by omega) (put (L.length : Int) ++ (encR (-1) L ++ rest)) (n1 + (put g.t).length + (put (zig g.m)).length)
  have eG : rG l = bkI g := by unfold rG; rw [eC, eT]; exact u3.1
  have eD : rD l = ⟨put (L.length : Int) ++ (encR (-1) L ++ rest), n1 + (put g.t).length + (put (zig g.m)).length + (put (bkI g)).length, 0⟩ := by unfold rD; rw [eC, eT]; exact u3.2
  have u4 := rd_uint (x := (L.length : Int)) (m := 128) (by omega) (by omega) (by omega) (encR (-1) L ++ rest) (n1 + (put g.t).length + (put (zig g.m)).length + (put (bkI g)).length)
  have eN : rN l = L.length := by unfold rN; rw [eD]; exact u4.1
  have eQ : rQ l = ⟨encR (-1) L ++ rest, n1 + (put g.t).length + (put (zig g.m)).length + (put (bkI g)).length + (put (L.length : Int)).length, 0⟩ := by unfold rQ; rw [eD]; exact u4.2
  obtain ⟨m', f⟩ := rowS_fwd L hc rest (n1 + (put g.t).length + (put (zig g.m)).length + (put (bkI g)).length + (put (L.length : Int)).length) L.length (Nat.le_refl _)
  refine ⟨m', ?_, eT, eM, ?_⟩
  · unfold rF
    rw [eN, Int.toNat_natCast, eQ, f]
    simp [encR]
  · unfold rP
    rw [eG, eT]
    unfold bkI
    split <;> split <;> omega
/-- What is written is read. -/
theorem op_back {g : Gm} {L : List Rc} (h : hedE g L.length = 0) (hc : chainR (-1) L) : opE (hedB g L.length ++ encR (-1) L) = 0 ∧ rT (hedB g L.length ++ encR (-1) L) = g.t ∧ rM (hedB g L.length ++ encR (-1) L) = g.m ∧ rP (hedB g L.length ++ encR (-1) L) = g.b ∧ (rF (hedB g L.length ++ encR (-1) L)).2 = L := by
  obtain ⟨m', e1, e2, e3, e4⟩ := op_fwd h hc []
  rw [List.append_nil] at e1 e2 e3 e4
  refine ⟨?_, e2, e3, e4, by rw [e1]⟩
  unfold opE
  rw [e1]
  rfl
/-- Bytes with one less, or one more, are not read. -/
theorem op_less {l : List Int} {c : Int} (hb : Bytes l) (h : opE l = 0) : opE (l ++ [c]) = 8 := by
  obtain ⟨e, h1, h2⟩ := op_one hb h
  obtain ⟨m', f, _⟩ := op_fwd h1 h2 [c]
  rw [← e] at f
  unfold opE
  rw [f]
  rfl
/-- A reader that has failed at the first byte. -/
theorem op_stuck {l : List Int} (h : (sameS 71 (⟨l, 0, 0⟩ : St)).e ≠ 0) : opE l = (sameS 71 (⟨l, 0, 0⟩ : St)).e := by
  obtain ⟨s, hs⟩ : ∃ s, sameS 71 (⟨l, 0, 0⟩ : St) = s := ⟨_, rfl⟩
  rw [hs] at h ⊢
  have eA : rA l = s := by unfold rA; rw [hs]; unfold sameS; rw [(byteS_e h).1, failS_e _ h]; split <;> rfl
  have eB : rB l = s := by unfold rB; rw [eA]; exact (uintS_e _ h).1
  have eC : rC l = s := by unfold rC timS; rw [eB, (intS_e h).1, failS_e _ h]; split <;> rfl
  have eD : rD l = s := by unfold rD; rw [eC]; exact (uintS_e _ h).1
  have eQ : rQ l = s := by unfold rQ; rw [eD]; exact (uintS_e _ h).1
  have eF := rowS_stuck (s := s) (k := 0) h (rN l).toNat
  rw [Nat.zero_add] at eF
  unfold opE rF
  rw [eQ, eF]
  show doneA s = s.e
  unfold doneA
  rw [if_neg h]
theorem rgE_zero {b : List Int} (h : rgE b = 0) : b.length ≤ 4096 ∧ openB b = true ∧ opE (opened b) = 0 := by
  unfold rgE at h
  split at h
  · omega
  · split at h
    · rename_i h1 h2
      exact ⟨by omega, h2, h⟩
    · omega
theorem zeros_no (n : Nat) : rgE (List.replicate n 0) = if 4096 < n then 8 else rgE (List.replicate n 0) := by
  split
  · unfold rgE
    rw [if_pos (by simpa using ‹4096 < n›)]
  · rfl
theorem zeros_e {n : Nat} (h : n ≤ 4096) : rgE (List.replicate n 0) = 9 ∨ rgE (List.replicate n 0) = 6 ∨ rgE (List.replicate n 0) = 7 := by
  unfold rgE
  rw [if_neg (by simpa using h)]
  split
  · rename_i ho
    right
    have hlen : 4 ≤ n := by
      unfold openB at ho
      simp at ho
      exact ho.1
    have eo : opened (List.replicate n 0) = List.replicate (n - 4) 0 := by
      rw [opened_yes (m := n - 4) (by simp; omega) ho]
      simp
    rw [eo]
    have hs : (sameS 71 (⟨List.replicate (n - 4) 0, 0, 0⟩ : St)).e = 6 ∨ (sameS 71 (⟨List.replicate (n - 4) 0, 0, 0⟩ : St)).e = 7 := by
      unfold sameS byteA byteS failS
      cases hn : n - 4 with
      | zero => left; simp
      | succ k => right; simp [List.replicate_succ]
    rw [op_stuck (by omega)]
    exact hs
  · exact Or.inl rfl
theorem pre_getD (L : List Rc) : pre (fun i => L.getD i noRec) L.length = L := by
  apply List.ext_getElem
  · rw [pre_len]
  · intro i h1 h2
    unfold pre
    simp [List.getD, h2]
end Go.Proofs.Ytlhfelelgkkblaa

namespace Go.Proofs.Ytlhfelelgkkblaa
open Go.RowKit
set_option linter.unusedVariables false
set_option maxRecDepth 8000

@[reducible] def psC (R : Nat) (t m b : Int) (v : Value) (c : Int) : List Value := [.pointer (some ⟨R, 0, none⟩), .int .i64 t, .int .i64 m, .int .i64 b, v, .int .i64 c]
theorem ps_same (w : World) (K R P : Nat) (s : St) (x t m b c : Int) (v : Value) (hr : Rdr w K R s) (hp : Blk w P (psC R t m b v c)) (hRP : R < P) :
    Calls Try.prog 80 #[.pointer (some ⟨P, 0, none⟩), .int .u8 x] w fun e w' => e = .returned (.tuple #[]) ∧ Rdr w' K R (sameS x s) ∧ Blk w' P (psC R t m b v c) ∧ Ch2 R P w w' := by
  have HR : Hid (Rdr w K R s) := hr
  have HY : Hid (byteA s = x → sameS x s = byteS s) := fun h => by unfold sameS; rw [if_pos h]
  have HN : Hid (byteA s ≠ x → sameS x s = failS (byteS s) 7) := fun h => by unfold sameS; rw [if_neg h]
  obtain ⟨q, hq⟩ : ∃ q, sameS x s = q := ⟨_, rfl⟩
  rw [hq] at HY HN
  rw [hq]
  clear hq
  have HB : Hid (∀ w', Rdr w' K R s → Calls Try.prog 89 #[.pointer (some ⟨R, 0, none⟩)] w' fun e w'' => e = .returned (.int .u8 (byteA s)) ∧ Rdr w'' K R (byteS s) ∧ Ch R w' w'') := fun w' h => byte_any w' K R s h
  obtain ⟨a, ha⟩ : ∃ a, byteA s = a := ⟨_, rfl⟩
  rw [ha] at HY HN HB
  clear ha hr
  have x0 := hp.cell 0 _ rfl
  have lp := hp.lt
  go_enter Try.func80, Try.ntmps80
  go_wp2_with fail
  refine (HB.out _ HR.out).mono ?_; rintro e w1 ⟨rfl, r1, k1⟩
  have R1 : Hid (Rdr w1 K R (byteS s)) := r1
  have p1 := hp.ch k1 (by omega)
  have y0 := p1.cell 0 _ rfl
  have lp1 := p1.lt
  clear x0 lp r1
  by_cases hx : a = x
  · subst hx
    have e := HY.out rfl
    have E : Hid (q = byteS s) := e
    clear e HY HN HB
    go_wp2_with fail
    go_end0
    exact ⟨rfl, E.out ▸ R1.out, p1, k1.two⟩
  · have E : Hid (q = failS (byteS s) 7) := HN.out hx
    have heq : (a == x) = false := by simp [hx]
    clear HY HN HB
    go_wp2_with fail
    refine (fail_any _ K R _ 7 R1.out).mono ?_; rintro e' w2 ⟨rfl, r2, k2⟩
    have R2 : Hid (Rdr w2 K R (failS (byteS s) 7)) := r2
    have p2 := p1.ch k2 (by omega)
    clear r2
    go_wp2_with fail
    go_end0
    exact ⟨rfl, E.out ▸ R2.out, p2, (k1.trans k2).two⟩
theorem ps_mark (w : World) (K R P : Nat) (s : St) (t m b c : Int) (v : Value) (hr : Rdr w K R s) (hp : Blk w P (psC R t m b v c)) (hRP : R < P) :
    Calls Try.prog 48 #[.pointer (some ⟨P, 0, none⟩)] w fun e w' => e = .returned (.tuple #[]) ∧ Rdr w' K R (sameS 71 s) ∧ Blk w' P (psC R t m b v c) ∧ Ch2 R P w w' := by
  have HR : Hid (Rdr w K R s) := hr
  clear hr
  go_enter Try.func48, Try.ntmps48
  go_wp2_with fail
  refine (ps_same _ K R P s 71 t m b c v HR.out hp hRP).mono ?_; rintro e' w2 ⟨rfl, r2, p2, k2⟩
  have R2 : Hid (Rdr w2 K R (sameS 71 s)) := r2
  clear r2
  go_wp2_with fail
  go_end0
  exact ⟨rfl, R2.out, p2, k2⟩
theorem ps_version (w : World) (K R P : Nat) (s : St) (t m b c : Int) (v : Value) (hr : Rdr w K R s) (hp : Blk w P (psC R t m b v c)) (hRP : R < P) :
    Calls Try.prog 49 #[.pointer (some ⟨P, 0, none⟩)] w fun e w' => e = .returned (.tuple #[]) ∧ Rdr w' K R (sameS 1 s) ∧ Blk w' P (psC R t m b v c) ∧ Ch2 R P w w' := by
  have HR : Hid (Rdr w K R s) := hr
  clear hr
  go_enter Try.func49, Try.ntmps49
  go_wp2_with fail
  refine (ps_same _ K R P s 1 t m b c v HR.out hp hRP).mono ?_; rintro e' w2 ⟨rfl, r2, p2, k2⟩
  have R2 : Hid (Rdr w2 K R (sameS 1 s)) := r2
  clear r2
  go_wp2_with fail
  go_end0
  exact ⟨rfl, R2.out, p2, k2⟩
theorem ps_tick (w : World) (K R P : Nat) (s : St) (t m b c : Int) (v : Value) (hr : Rdr w K R s) (hp : Blk w P (psC R t m b v c)) (hRP : R < P) :
    Calls Try.prog 50 #[.pointer (some ⟨P, 0, none⟩)] w fun e w' => e = .returned (.tuple #[]) ∧ Rdr w' K R (uintS 4294967295 s) ∧ Blk w' P (psC R (uintA 4294967295 s) m b v c) ∧ Ch2 R P w w' := by
  have HR : Hid (Rdr w K R s) := hr
  have hK := hr.hK
  have HB : Hid (∀ w', Rdr w' K R s → Calls Try.prog 81 #[.pointer (some ⟨R, 0, none⟩), .int .u64 4294967295] w' fun e w'' => e = .returned (.int .u64 (uintA 4294967295 s)) ∧ Rdr w'' K R (uintS 4294967295 s) ∧ Ch R w' w'') := fun w' h => uint_any w' K R s _ h
  have b0 := (uintA_bd 4294967295 s).1
  have b1 := uintA_le (m := 4294967295) (by omega) s
  obtain ⟨a, ha⟩ : ∃ a, uintA 4294967295 s = a := ⟨_, rfl⟩
  rw [ha] at HB b0 b1
  rw [ha]
  clear ha hr
  have x0 := hp.cell 0 _ rfl
  have lp := hp.lt
  go_enter Try.func50, Try.ntmps50
  go_wp2_with fail
  refine (HB.out _ HR.out).mono ?_; rintro e w1 ⟨rfl, r1, k1⟩
  have R1 : Hid (Rdr w1 K R (uintS 4294967295 s)) := r1
  have p1 := hp.ch k1 (by omega)
  have y1 := p1.cell 1 _ rfl
  have f1 := p1.froz 1
  have lp1 := p1.lt
  clear x0 lp r1 HB
  go_wp2_with fail
  go_end0
  exact ⟨rfl, R1.out.ch ((Ch.refl P _).set 1 _) (by omega) (by omega), p1.set 1 _ (by simp), k1.two.set (by omega) 1 _⟩
theorem ps_size (w : World) (K R P : Nat) (s : St) (t m b c : Int) (v : Value) (hr : Rdr w K R s) (hp : Blk w P (psC R t m b v c)) (hRP : R < P) :
    Calls Try.prog 53 #[.pointer (some ⟨P, 0, none⟩)] w fun e w' => e = .returned (.tuple #[]) ∧ Rdr w' K R (uintS 128 s) ∧ Blk w' P (psC R t m b v (uintA 128 s)) ∧ Ch2 R P w w' := by
  have HR : Hid (Rdr w K R s) := hr
  have hK := hr.hK
  have HB : Hid (∀ w', Rdr w' K R s → Calls Try.prog 81 #[.pointer (some ⟨R, 0, none⟩), .int .u64 128] w' fun e w'' => e = .returned (.int .u64 (uintA 128 s)) ∧ Rdr w'' K R (uintS 128 s) ∧ Ch R w' w'') := fun w' h => uint_any w' K R s _ h
  have b0 := (uintA_bd 128 s).1
  have b1 := uintA_le (m := 128) (by omega) s
  obtain ⟨a, ha⟩ : ∃ a, uintA 128 s = a := ⟨_, rfl⟩
  rw [ha] at HB b0 b1
  rw [ha]
  clear ha hr
  have x0 := hp.cell 0 _ rfl
  have lp := hp.lt
  go_enter Try.func53, Try.ntmps53
  go_wp2_with fail
  refine (HB.out _ HR.out).mono ?_; rintro e w1 ⟨rfl, r1, k1⟩
  have R1 : Hid (Rdr w1 K R (uintS 128 s)) := r1
  have p1 := hp.ch k1 (by omega)
  have y1 := p1.cell 5 _ rfl
  have f1 := p1.froz 5
  have lp1 := p1.lt
  clear x0 lp r1 HB
  go_wp2_with fail
  go_end0
  exact ⟨rfl, R1.out.ch ((Ch.refl P _).set 5 _) (by omega) (by omega), p1.set 5 _ (by simp), k1.two.set (by omega) 5 _⟩
theorem ps_time (w : World) (K R P : Nat) (s : St) (t m b c : Int) (v : Value) (hr : Rdr w K R s) (hp : Blk w P (psC R t m b v c)) (hRP : R < P) :
    Calls Try.prog 51 #[.pointer (some ⟨P, 0, none⟩)] w fun e w' => e = .returned (.tuple #[]) ∧ Rdr w' K R (timS s) ∧ Blk w' P (psC R t (intA s) b v c) ∧ Ch2 R P w w' := by
  have HR : Hid (Rdr w K R s) := hr
  have hK := hr.hK
  have HB : Hid (∀ w', Rdr w' K R s → Calls Try.prog 82 #[.pointer (some ⟨R, 0, none⟩)] w' fun e w'' => e = .returned (.int .i64 (intA s)) ∧ Rdr w'' K R (intS s) ∧ Ch R w' w'') := fun w' h => int_any w' K R s h
  have HY : Hid (timB (intA s) = true → timS s = intS s) := fun h => by unfold timS; rw [if_pos h]
  have HN : Hid (timB (intA s) = false → timS s = failS (intS s) 3) := fun h => by unfold timS; rw [if_neg (by rw [h]; simp)]
  obtain ⟨q, hq⟩ : ∃ q, timS s = q := ⟨_, rfl⟩
  obtain ⟨a, ha⟩ : ∃ a, intA s = a := ⟨_, rfl⟩
  rw [hq, ha] at HY HN
  rw [ha] at HB
  rw [hq, ha]
  obtain ⟨tb, htb⟩ : ∃ x, timB a = x := ⟨_, rfl⟩
  have HTB : Hid (timB a = tb) := htb
  rw [htb] at HY HN
  clear hq ha hr htb
  have x0 := hp.cell 0 _ rfl
  have lp := hp.lt
  go_enter Try.func51, Try.ntmps51
  go_wp2_with fail
  refine (HB.out _ HR.out).mono ?_; rintro e w1 ⟨rfl, r1, k1⟩
  have p1 := hp.ch k1 (by omega)
  have y1 := p1.cell 2 _ rfl
  have f1 := p1.froz 2
  have lp1 := p1.lt
  have R1 : Hid (Rdr (w1.setCell ⟨P, 2, none⟩ (.int .i64 a)) K R (intS s)) := Rdr.ch r1 ((Ch.refl P _).set 2 _) (by omega) (by omega)
  have P2 : Blk (w1.setCell ⟨P, 2, none⟩ (.int .i64 a)) P (psC R t a b v c) := p1.set 2 _ (by simp)
  have K2 : Ch2 R P w (w1.setCell ⟨P, 2, none⟩ (.int .i64 a)) := k1.two.set (by omega) 2 _
  clear x0 lp r1 HB
  go_wp2_with fail
  generalize w1.setCell ⟨P, 2, none⟩ (.int .i64 a) = w2 at R1 P2 K2 ⊢
  have z0 := P2.cell 0 _ rfl
  have lp2 := P2.lt
  clear p1 y1 f1 lp1 k1
  refine (gm_time _ _).mono ?_; rw [HTB.out]; rintro e w3 ⟨rfl, rfl⟩
  cases tb
  · have E : Hid (q = failS (intS s) 3) := HN.out rfl
    clear HY HN
    go_wp2_with fail
    refine (fail_any _ K R _ 3 R1.out).mono ?_; rintro e' w4 ⟨rfl, r2, k2⟩
    have R2 : Hid (Rdr w4 K R (failS (intS s) 3)) := r2
    have p2 := P2.ch k2 (by omega)
    clear r2
    go_wp2_with fail
    go_end0
    exact ⟨rfl, E.out ▸ R2.out, p2, K2.trans k2.two⟩
  · have E : Hid (q = intS s) := HY.out rfl
    clear HY HN
    go_wp2_with fail
    go_end0
    exact ⟨rfl, E.out ▸ R1.out, P2, K2⟩
set_option maxHeartbeats 1000000 in
theorem ps_base (w : World) (K R P : Nat) (s : St) (t m b c : Int) (v : Value) (hr : Rdr w K R s) (hp : Blk w P (psC R t m b v c)) (hRP : R < P) (ht0 : 0 ≤ t) (ht1 : t ≤ 4294967295) :
    Calls Try.prog 52 #[.pointer (some ⟨P, 0, none⟩)] w fun e w' => e = .returned (.tuple #[]) ∧ Rdr w' K R (uintS t s) ∧ Blk w' P (psC R t m (if 0 < uintA t s then t - uintA t s else -1) v c) ∧ Ch2 R P w w' := by
  have hK := hr.hK
  have HB : Hid (∀ w', Rdr w' K R s → Calls Try.prog 81 #[.pointer (some ⟨R, 0, none⟩), .int .u64 (IntKind.u64.wrap t)] w' fun e w'' => e = .returned (.int .u64 (uintA t s)) ∧ Rdr w'' K R (uintS t s) ∧ Ch R w' w'') := fun w' h => by
    have wt : IntKind.u64.wrap t = t := by rw [u64_eq]; omega
    rw [wt]
    exact uint_any w' K R s _ h
  have b0 := (uintA_bd t s).1
  have b1 := uintA_le (m := t) (by omega) s
  obtain ⟨a, ha⟩ : ∃ a, uintA t s = a := ⟨_, rfl⟩
  rw [ha] at HB b0 b1
  rw [ha]
  clear ha
  have x0 := hp.cell 0 _ rfl
  have x3 := hp.cell 3 _ rfl
  have f3 := hp.froz 3
  have lp := hp.lt
  have RW : Hid (Rdr (w.setCell ⟨P, 3, none⟩ (.int .i64 (-1))) K R s) := Rdr.ch hr ((Ch.refl P _).set 3 _) (by omega) (by omega)
  have p0 : Blk (w.setCell ⟨P, 3, none⟩ (.int .i64 (-1))) P (psC R t m (-1) v c) := hp.set 3 _ (by simp)
  have k0 : Ch2 R P w (w.setCell ⟨P, 3, none⟩ (.int .i64 (-1))) := (Ch2.refl R P w).set (by omega) 3 _
  clear hr
  go_enter Try.func52, Try.ntmps52
  go_wp2_with fail
  generalize w.setCell ⟨P, 3, none⟩ (.int .i64 (-1)) = W at RW p0 k0 ⊢
  clear x0 x3 f3 lp hp
  have y0_0 := p0.cell 0 _ rfl
  have y1_0 := p0.cell 1 _ rfl
  have lp0 := p0.lt
  go_region_held3 (fun w' => w'.cell? ⟨P, 0, none⟩ = some (.pointer (some ⟨R, 0, none⟩)) ∧ w'.cell? ⟨P, 1, none⟩ = some (.int .i64 t)) (first | with_reducible exact ⟨y0_1, y1_1⟩ | with_reducible exact ⟨y0_0, y1_0⟩ | go_keep)
    (first | (go_at_call 81; (with_reducible refine (HB.out _ (Rdr.drew RW.out)).mono ?_); rintro e w2 ⟨rfl, r2, k2⟩; have p2 := p0.drew.ch k2 (by omega); have R2 : Hid (Rdr w2 K R (uintS t s)) := r2; have K2 : Ch2 R P w w2 := ⟨k0.below.drew.trans k2.below, fun g h1 h2 h3 => (k2.past g h1 (Nat.lt_of_lt_of_le h3 k0.size)).trans (k0.past g h1 h2 h3)⟩; clear r2; have y0_1 := p2.cell 0 _ rfl; have y1_1 := p2.cell 1 _ rfl))
  clear y0_0 y1_0 lp0 HB RW p0 k0 k2
  have lp2 := p2.lt
  have y3 := p2.cell 3 _ rfl
  have f3 := p2.froz 3
  by_cases hpos : 0 < a
  · go_wp2_with fail
    go_end0
    refine ⟨rfl, R2.out.ch ((Ch.refl P _).set 3 _) (by omega) (by omega), ?_, K2.set (by omega) 3 _⟩
    first | exact p2.set 3 _ (by simp) | (rw [if_pos hpos]; exact p2.set 3 _ (by simp))
  · obtain rfl : a = 0 := by omega
    go_wp2_with fail
    go_end0
    exact ⟨rfl, R2.out, by simpa using p2, K2⟩
end Go.Proofs.Ytlhfelelgkkblaa
