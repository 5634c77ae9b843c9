/-
  Texts Gm4, Gm5, Gm6, Gm7, Fr9, Gm8, Gm9, Gm10, Gm11, Gm12, Gm13, Gm14 in one.
-/
import Derived.Deep.RegionHeld3
import Derived.Deep.RegionLaw
import Derived.Deep.DeepCutAuto
import Derived.Deep.CutBlock
import Derived.Test.YtpamjalgcloehaaP11
namespace Go.Proofs.Ytpamjalgcloehaa
open Go.RowKit
set_option linter.unusedVariables false
set_option maxRecDepth 8000

set_option maxHeartbeats 4000000 in
theorem gm_body (w : World) (g : Gm) (ok : g.ok) (v : Value) (n : Nat) (A : Nat → Rc) (hA : ∀ i, i < n → (A i).ok) (hv : RdR w v n A) :
    Calls Try.prog 19 #[gmV g v] w fun e w' => ∃ u, e = .returned (.tuple #[u, .int .i64 (gmE g A n)]) ∧ Own w' w.heap.size u (bodB g A n) ∧ Below w.heap.size w w' := by
  have HA : Hid (∀ i, i < n → (A i).ok) := hA
  have HR : Hid (RdR w v n A) := hv
  obtain ⟨ao, cap, rfl, hc, hm, _⟩ := hv
  have HC : Hid (∀ w', Calls Try.prog 28 #[gmV g (.slice ao n cap)] w' fun e w'' => e = .returned (.int .i64 (hedE g n)) ∧ Below w'.heap.size w' w'') := fun w' => gm_check w' g ok ao n cap hc hm
  have HH : Hid (hedE g n = 0 → ∀ w', Calls Try.prog 29 #[gmV g (.slice ao n cap)] w' fun e w'' => ∃ v, e = .returned v ∧ Own w'' w'.heap.size v (hedB g n) ∧ Below w'.heap.size w' w'') := fun h w' => gm_heads w' g ao n cap hc hm h
  have NO : Hid (hedE g n ≠ 0 → gmE g A n = hedE g n ∧ bodB g A n = []) := fun h => by
    have e : gmE g A n = hedE g n := by unfold gmE; rw [if_neg h]
    exact ⟨e, by unfold bodB; rw [if_neg (by rw [e]; exact h)]⟩
  have YE : Hid (hedE g n = 0 → chainR (-1) (pre A n) → gmE g A n = 0 ∧ bodB g A n = hedB g n ++ encR (-1) (pre A n)) := fun h hc => by
    have e : gmE g A n = 0 := by unfold gmE; rw [if_pos h]; exact fir_chain _ _ hc
    exact ⟨e, by unfold bodB; rw [if_pos e]; rfl⟩
  have ER : Hid (∀ k, hedE g n = 0 → k < n → chainR (-1) (pre A k) → wrE (A k) (lastR (-1) (pre A k)) ≠ 0 → gmE g A n = wrE (A k) (lastR (-1) (pre A k)) ∧ bodB g A n = []) := fun k h hk hc he => by
    have e : gmE g A n = wrE (A k) (lastR (-1) (pre A k)) := by unfold gmE; rw [if_pos h]; exact fir_pre hk hc he
    exact ⟨e, by unfold bodB; rw [if_neg (by rw [e]; exact he)]⟩
  have HL : Hid (hedE g n = 0 → (hedB g n).length ≤ 42 ∧ n ≤ 128) := fun h => ⟨hedB_len h, (hed_ok h).2.2.2.2.2.2⟩
  obtain ⟨hb, ehb⟩ : ∃ x, hedB g n = x := ⟨_, rfl⟩
  obtain ⟨he, ehe⟩ : ∃ x, hedE g n = x := ⟨_, rfl⟩
  obtain ⟨ge, ege⟩ : ∃ x, gmE g A n = x := ⟨_, rfl⟩
  obtain ⟨gb, egb⟩ : ∃ x, bodB g A n = x := ⟨_, rfl⟩
  rw [ehb, ehe] at HH YE HL
  rw [ehe] at HC NO ER
  rw [ege, egb] at NO YE ER
  rw [ege, egb]
  clear ehb ehe ege egb hA
  obtain ⟨t, m, b⟩ := g
  go_enter Try.func19, Try.ntmps19
  go_wp2_with fail
  generalize hW : w.alloc (.cells #[.int .i64 t, .int .i64 m, .int .i64 b, .slice ao n cap] 32) = W
  obtain ⟨A0, b0, _⟩ := boxed hW
  clear hW
  refine (HC.out _).mono ?_; rintro e w1 ⟨rfl, g1⟩
  have A1 := A0.below g1 A0.lt
  have b1 := bup b0 (Nat.le_refl _) g1
  have x0 := A1.cell 0 _ rfl
  have x1 := A1.cell 1 _ rfl
  have x2 := A1.cell 2 _ rfl
  have x3 := A1.cell 3 _ rfl
  have l1 := A1.lt
  clear A0 b0 g1
  by_cases hz : he = 0
  · subst hz
    go_wp2_with fail
    refine (HH.out (by trivial) _).mono ?_; rintro e w2 ⟨u2, rfl, own2, g2⟩
    have A2 := A1.below g2 A1.lt
    have b2 := bup b1 (Nat.le_refl _) g2
    obtain ⟨hl1, hl2⟩ := HL.out (by trivial)
    have O2 : Hid (Own w2 w.heap.size u2 hb) := own2.mono b1.size
    clear x0 x1 x2 x3 l1 A1 b1 g2 own2 NO HC HH HL
    have x3 := A2.cell 3 _ rfl
    have l2 := A2.lt
    go_wp2_with fail
    clear x3 l2
    have B2 : Hid (Below w.heap.size w w2) := b2
    clear b2 A2
    go_loopw [21, 5, 6] (fun i bv lv wr => ∃ k : Nat, k ≤ n ∧ i = .int .i64 k ∧ lv = .int .i64 (lastR (-1) (pre A k)) ∧ chainR (-1) (pre A k) ∧ Own wr w.heap.size bv (hb ++ encR (-1) (pre A k)) ∧ Below w.heap.size w wr) (fun i _ _ _ => n - (intOf i).toNat)
    case atStart => exact ⟨0, by omega, rfl, rfl, trivial, by rw [pre_zero]; simpa [encR] using O2.out, B2.out⟩
    case round =>
      obtain ⟨k, hk, rfl, rfl, ch, q1, q4⟩ := hrel
      have CO := chainR_ok _ _ ch
      have LB := lastR_bd _ _ ch (by omega) (by omega)
      rw [pre_len] at CO
      have LE : (hb ++ encR (-1) (pre A k)).length ≤ 8746 := by rw [List.length_append]; omega
      have CH : Hid (chainR (-1) (pre A k)) := ch
      have Q1 : Hid (Own wr w.heap.size u5 (hb ++ encR (-1) (pre A k))) := q1
      have s1 := q4.size
      clear q1 ch CO
      by_cases hlt : k < n
      · obtain ⟨ao', cap', e, _, _, h3⟩ := HR.out
        injection e with e1 e2 e3
        subst e1 e3
        obtain ⟨b', o, rfl, hcell⟩ := h3.resolve_left (by omega)
        have okk := HA.out k hlt
        have ERk : Hid (wrE (A k) (lastR (-1) (pre A k)) ≠ 0 → ge = wrE (A k) (lastR (-1) (pre A k)) ∧ gb = []) := ER.out k (by trivial) hlt CH.out
        have YEk : Hid (wrE (A k) (lastR (-1) (pre A k)) = 0 → chainR (-1) (pre A (k + 1)) ∧ encR (-1) (pre A (k + 1)) = encR (-1) (pre A k) ++ wrB (A k) (lastR (-1) (pre A k)) ∧ lastR (-1) (pre A (k + 1)) = (A k).i ∧ wrB (A k) (lastR (-1) (pre A k)) ≠ []) := fun h =>
          ⟨by rw [pre_succ]; exact chainR_snoc _ _ _ CH.out okk h, by rw [pre_succ, encR_snoc], by rw [pre_succ, lastR_snoc], by unfold wrB; rw [if_pos h]; simp⟩
        obtain ⟨r, hr⟩ : ∃ r, A k = r := ⟨_, rfl⟩
        have cc : ∀ j x, (recC r)[j]? = some x → wr.cell? ⟨b', o + k * 9 + j, none⟩ = some x := fun j x hx => by
          have c := hcell k hlt j x (by rw [hr]; exact hx)
          exact (q4.cell (p := ⟨b', o + k * 9 + j, none⟩) (World.block_lt_of_cell? w _ c)).trans c
        rw [hr] at okk ERk YEk
        have x0 := cc 0 _ rfl
        have x1 := cc 1 _ rfl
        have x2 := cc 2 _ rfl
        have x3 := cc 3 _ rfl
        have x4 := cc 4 _ rfl
        have x5 := cc 5 _ rfl
        have x6 := cc 6 _ rfl
        have x7 := cc 7 _ rfl
        have x8 := cc 8 _ rfl
        have bl : b' < wr.heap.size := World.block_lt_of_cell? wr _ x0
        have OKR : Hid r.ok := okk
        simp only [Nat.add_zero] at x0
        clear cc hcell hr okk ER YE
        obtain ⟨lst, hlst⟩ : ∃ x, lastR (-1) (pre A k) = x := ⟨_, rfl⟩
        rw [hlst] at LB ERk YEk
        rw [hlst]
        clear hlst
        obtain ⟨lb0, lb1⟩ := LB
        obtain ⟨er, her⟩ : ∃ x, wrE r lst = x := ⟨_, rfl⟩
        obtain ⟨lw, hlw⟩ : ∃ x, wrB r lst = x := ⟨_, rfl⟩
        have HER : Hid (wrE r lst = er ∧ wrB r lst = lw) := ⟨her, hlw⟩
        have LW : lw.length ≤ 68 := by rw [← hlw]; exact wr_len OKR.out
        rw [her] at ERk YEk
        rw [hlw] at YEk
        clear her hlw
        go_wp2_with fail
        generalize hV : wr.alloc (.cells (recA r) 38) = W2
        obtain ⟨T2, bb, _⟩ := boxed hV
        have P1 : Hid (Own W2 w.heap.size u5 (hb ++ encR (-1) (pre A k))) := Own.below Q1.out bb
        have B3 := bup q4 (Nat.le_refl _) bb
        have TA : some wr.heap.size ≠ u5.ownBlock := Blk.apart Q1.out (Nat.le_refl _)
        obtain ⟨MT, hMT⟩ : ∃ M, wr.heap.size = M := ⟨_, rfl⟩
        rw [hMT] at T2 TA
        rw [hMT]
        clear hV bb hMT Q1 q4 x0 x1 x2 x3 x4 x5 x6 x7 x8 bl
        refine (rec_write _ r lst OKR.out (by unfold S64; omega)).mono ?_; rw [HER.out.1, HER.out.2]; rintro e w3 ⟨u8', rfl, own3, b3⟩
        have S1 : Hid (Own w3 w.heap.size u5 (hb ++ encR (-1) (pre A k))) := Own.below P1.out b3
        have O8 : Hid (Own w3 W2.heap.size u8' lw) := own3
        have T3 := T2.below b3 T2.lt
        have B4 := bup B3 (Nat.le_refl _) b3
        have s3 := B4.size
        clear P1 own3 b3 T2 B3
        by_cases hz : er = 0
        · obtain ⟨y1, y2, y3, y4⟩ := YEk.out hz
          have Y : Hid (chainR (-1) (pre A (k + 1)) ∧ encR (-1) (pre A (k + 1)) = encR (-1) (pre A k) ++ lw ∧ lastR (-1) (pre A (k + 1)) = r.i) := ⟨y1, y2, y3⟩
          subst hz
          clear ERk YEk y1 y2 y3
          go_wp2_with (at_builtin; refine grow_wp rfl _ _ rfl w.heap.size _ (hb ++ encR (-1) (pre A k)) rfl (by exact S1.out) _ lw rfl (by exact O8.out.rd) y4 (by omega) (by omega) ?_; intro v5 w5 own5 gr5; have T5 := (Blk.grow T3 TA gr5).1; have B5 := B4.trans gr5.below; have z1 := T5.cell 1 _ rfl; have O5 : Hid (Own w5 w.heap.size v5 (hb ++ encR (-1) (pre A k) ++ lw)) := own5; clear own5 S1 O8 T3 B4 gr5 TA)
          go_roundw
          case rel => exact ⟨k + 1, by omega, by go_num, by rw [Y.out.2.2], Y.out.1, by rw [Y.out.2.1, ← List.append_assoc]; exact O5.out, B5⟩
          case measure => simp [intOf]; omega
        · obtain ⟨y1, y2⟩ := ERk.out hz
          have heq : (er == 0) = false := by simp [hz]
          subst y1 y2
          clear ERk YEk
          go_wp2_with fail
          go_ret2
          exact ⟨_, rfl, Own.nil _ _, B4⟩
      · obtain rfl : k = n := by omega
        obtain ⟨y1, y2⟩ := YE.out (by trivial) CH.out
        subst y1
        have Y2 : Hid (gb = hb ++ encR (-1) (pre A k)) := y2
        clear y2 ER YE
        go_wp2_with fail
        go_ret2
        exact ⟨_, rfl, by rw [Y2.out]; exact Q1.out, q4⟩
  · obtain ⟨y1, y2⟩ := NO.out hz
    have heq : (he == 0) = false := by simp [hz]
    subst y1 y2
    clear NO YE ER HL HH HC
    go_wp2_with fail
    go_ret2
    exact ⟨_, rfl, Own.nil _ _, b1⟩
end Go.Proofs.Ytpamjalgcloehaa

namespace Go.Proofs.Ytpamjalgcloehaa
open Go.RowKit
set_option linter.unusedVariables false
set_option maxRecDepth 8000

theorem gm_checks (w : World) (g : Gm) (ok : g.ok) (v : Value) (n : Nat) (A : Nat → Rc) (hA : ∀ i, i < n → (A i).ok) (hv : RdR w v n A) :
    Calls Try.prog 10 #[gmV g v] w fun e w' => e = .returned (.int .i64 (gmE g A n)) ∧ Below w.heap.size w w' := by
  have HB : Hid (∀ w', Below w.heap.size w w' → Calls Try.prog 19 #[gmV g v] w' fun e w'' => ∃ u, e = .returned (.tuple #[u, .int .i64 (gmE g A n)]) ∧ Own w'' w'.heap.size u (bodB g A n) ∧ Below w'.heap.size w' w'') := fun w' h => gm_body w' g ok v n A hA (hv.below h)
  obtain ⟨ge, ege⟩ : ∃ x, gmE g A n = x := ⟨_, rfl⟩
  rw [ege] at HB
  rw [ege]
  clear ege hA ok
  obtain ⟨ao, cap, rfl, hc, hm, _⟩ := hv
  obtain ⟨t, m, b⟩ := g
  go_enter Try.func10, Try.ntmps10
  go_wp2_with fail
  generalize hW : w.alloc (.cells #[.int .i64 t, .int .i64 m, .int .i64 b, .slice ao n cap] 32) = W
  obtain ⟨A0, b0, _⟩ := boxed hW
  clear hW
  refine (HB.out _ b0).mono ?_; rintro e w1 ⟨u1, rfl, _, g1⟩
  have b1 := bup b0 (Nat.le_refl _) g1
  go_wp2_with fail
  go_ret
  exact ⟨rfl, b1⟩
end Go.Proofs.Ytpamjalgcloehaa

namespace Go.Proofs.Ytpamjalgcloehaa
open Go.RowKit
set_option linter.unusedVariables false
set_option maxRecDepth 8000

end Go.Proofs.Ytpamjalgcloehaa

namespace Go.Proofs.Ytpamjalgcloehaa
open Go.RowKit
set_option linter.unusedVariables false
set_option maxRecDepth 8000

/-! the example -/
abbrev exG : Gm := ⟨0, 0, -1⟩
abbrev exL : List Int := [71, 1, 0, 0, 0, 0]
theorem exG_ok : exG.ok := ⟨by unfold S64; simp only; omega, by unfold S64; simp only; omega, by unfold S64; simp only; omega⟩
theorem exG_b : gmB exG (fun _ => noRec) 0 = exL := by
  unfold gmB hedB bkI
  simp [pre, encR, zig, put_lo]
theorem exG_h : hedE exG 0 = 0 := by unfold hedE timB; simp
theorem exG_g : gmE exG (fun _ => noRec) 0 = 0 := by unfold gmE; rw [if_pos exG_h]; rfl
theorem exG_e : wrtE exG (fun _ => noRec) 0 = 0 := by unfold wrtE; rw [if_pos exG_g, exG_b]; decide
theorem exG_w : wrtB exG (fun _ => noRec) 0 = sealed exL := by unfold wrtB; rw [if_pos exG_e, exG_b]
theorem exL_ok : Bytes exL := by intro c hc; simp at hc; omega
theorem RdR.none (w : World) : RdR w (.slice .none 0 0) 0 (fun _ => noRec) := ⟨.none, 0, rfl, Nat.le_refl _, by omega, Or.inl rfl⟩
/-- Records that the call owns are read, by their places. -/
theorem OwnR.rdR {w : World} {B : Nat} {v : Value} {L : List Rc} (h : OwnR w B v L) : RdR w v L.length (fun i => L.getD i noRec) := by
  by_cases hl : L = []
  · subst hl
    rcases h.2 with ⟨e, _⟩ | ⟨g, cap, cur, hv, hb, hg, hc, hm, hs, ht⟩
    · subst e
      exact ⟨none, 0, rfl, Nat.le_refl _, by omega, Or.inl rfl⟩
    · subst hv
      exact ⟨_, cap, rfl, hc, hm, Or.inl rfl⟩
  · obtain ⟨g, cap, rfl, h1, h2, h3, h4, h5⟩ := h.cells hl
    exact ⟨_, cap, rfl, h3, h4, Or.inr ⟨g, 0, rfl, fun i hi j x hx => by simpa using h5 i hi j x hx⟩⟩
end Go.Proofs.Ytpamjalgcloehaa

namespace Go.Proofs.Ytpamjalgcloehaa
open Go.ChangeShapes Go.WideShapes Go.ChangeAt Go.RowKit Go.Joins
set_option linter.unusedVariables false
variable {H : Type} {enc : TypeId × Value → H}

theorem trod_struct4 {P : Program} {w : World} {base : Nat} {spare : Nat → Bool} {held : Bool} {t : TypeId} {f0 f1 f2 f3 : Field} {fuel : Nat} {cs : List Value} {x : DataW H × List MemPlace} (ht : P.underlying t = some (.struct #[f0, f1, f2, f3])) (h : DataW.trod enc P w base spare held fuel t cs = some x) :
    ∃ y0 y1 y2 y3 n, cs.length = P.cellsOf t ∧
      DataW.trod enc P w base spare held n f0.type ((cs.drop f0.offset).take (P.cellsOf f0.type)) = some y0 ∧ DataW.trod enc P w base spare held n f1.type ((cs.drop f1.offset).take (P.cellsOf f1.type)) = some y1 ∧
      DataW.trod enc P w base spare held n f2.type ((cs.drop f2.offset).take (P.cellsOf f2.type)) = some y2 ∧ DataW.trod enc P w base spare held n f3.type ((cs.drop f3.offset).take (P.cellsOf f3.type)) = some y3 := by
  obtain ⟨xs, n, _, rfl, hl, hlen, hf⟩ := DataW.trod_struct ht h
  match xs, hlen with
  | [y0, y1, y2, y3], _ => exact ⟨y0, y1, y2, y3, n, hl, by simpa using hf 0 f0 rfl, by simpa using hf 1 f1 rfl, by simpa using hf 2 f2 rfl, by simpa using hf 3 f3 rfl⟩
theorem cells_gram : Try.prog.cellsOf 32 = 4 := by kernel_rfl
theorem cells_recs : Try.prog.cellsOf 30 = 1 := by kernel_rfl
set_option maxRecDepth 20000 in
theorem trod_recs {W : World} {fuel : Nat} {cs : List Value} {x : DataW H × List MemPlace} (hf : DataW.trod enc Try.prog W 0 (fun _ => true) true fuel 30 cs = some x) :
    ∃ (v : Value) (n : Nat) (A : Nat → Rc), cs = [v] ∧ (∀ i, i < n → (A i).ok) ∧ RdR W v n A := by
  rcases Go.Deep.open_slice Try.underlying30 hf with ⟨hcs, hx⟩ | ⟨a, len2, cap, m, n, D, Pl, hcs, _, hl, hm, hmm, hx, hel⟩
  · exact ⟨_, 0, fun _ => noRec, hcs, fun i hi => by omega, none, 0, rfl, Nat.le_refl _, by omega, Or.inl rfl⟩
  · simp only [if_true] at hmm
    subst hmm
    rw [cells_rec] at hel
    have each : ∀ i, i < m → ∃ r : Rc, (∀ j x, (recC r)[j]? = some x → W.cell? (a.add (i * 9 + j)) = some x) ∧ r.ok := by
      intro i hi
      obtain ⟨cs', h1, h2⟩ := hel i hi
      obtain ⟨_, hlen, hcell⟩ := World.cells?_some h1
      obtain ⟨r, rfl, ok⟩ := trod_rec h2
      refine ⟨r, fun j x hj => ?_, ok⟩
      have hj' : j < 9 := (List.getElem?_eq_some_iff.1 hj).1
      have c := hcell j (by exact hj')
      rw [Go.Deep.add_add] at c
      rw [c]; exact hj
    haveI : Inhabited Rc := ⟨noRec⟩
    obtain ⟨A, hA⟩ := Go.Deep.choose_lt each
    refine ⟨_, len2, A, hcs, fun i hi => (hA i (by omega)).2, some a, m, rfl, hl, hm, ?_⟩
    by_cases h0 : len2 = 0
    · exact Or.inl h0
    · right
      obtain ⟨ab, ao, spot⟩ := a
      have hspot : spot = none := by simpa [Addr.add] using World.cell?_spot ((hA 0 (by omega)).1 0 _ rfl)
      subst hspot
      refine ⟨ab, ao, rfl, fun i hi j x hj => ?_⟩
      have := (hA i (by omega)).1 j x hj
      simp only [Addr.add_lit] at this
      rw [Nat.add_assoc]; exact this
set_option maxRecDepth 20000 in
theorem trod_gram {w : World} {fuel : Nat} {cs : List Value} {x : DataW H × List MemPlace} (h : DataW.trod enc Try.prog w 0 (fun _ => true) true fuel 32 cs = some x) :
    ∃ (g : Gm) (u : Value) (n : Nat) (A : Nat → Rc), cs = gmC g u ∧ g.ok ∧ (∀ i, i < n → (A i).ok) ∧ RdR w u n A := by
  obtain ⟨y0, y1, y2, y3, n, hl, g0, g1, g2, g3⟩ := trod_struct4 Try.underlying32 h
  rw [cells_gram] at hl
  match cs, hl with
  | [c0, c1, c2, c3], _ =>
    simp [cells_i64, cells_recs] at g0 g1 g2 g3
    obtain ⟨z0, e0, _, w0⟩ := DataW.trod_int Try.underlying2 g0
    obtain ⟨z1, e1, _, w1⟩ := DataW.trod_int Try.underlying2 g1
    obtain ⟨z2, e2, _, w2⟩ := DataW.trod_int Try.underlying2 g2
    obtain ⟨u, k, A, e3, hA, hr⟩ := trod_recs g3
    simp at e0 e1 e2 e3
    subst e0 e1 e2 e3
    exact ⟨⟨z0, z1, z2⟩, _, k, A, rfl, ⟨wf_i64 w0, wf_i64 w1, wf_i64 w2⟩, hA, hr⟩
set_option maxRecDepth 20000 in
theorem open_gram {W : World} {base : Nat} {v : Value} {d : DataW H} {p : List MemPlace} (hval : Value.okWide Try.prog W .any base 32 v) (h : DataW.Trod enc Try.prog W 0 (fun _ => true) true 32 v d p) :
    ∃ (g : Gm) (u : Value) (n : Nat) (A : Nat → Rc), v = gmV g u ∧ g.ok ∧ (∀ i, i < n → (A i).ok) ∧ RdR W u n A := by
  obtain ⟨cs, rfl, _⟩ := okWide_struct Try.underlying32 hval
  obtain ⟨fuel, hf⟩ := h
  obtain ⟨g, u, n, A, e, ok, hA, hr⟩ := trod_gram hf
  refine ⟨g, u, n, A, ?_, ok, hA, hr⟩
  have : cs = (gmC g u).toArray := by simpa [Value.cells] using congrArg List.toArray e
  rw [this]
end Go.Proofs.Ytpamjalgcloehaa

namespace Go.Proofs.Ytpamjalgcloehaa
open Go.RowKit
set_option linter.unusedVariables false

def sameS (c : Int) (s : St) : St := if byteA s = c then byteS s else failS (byteS s) 7
def timS (s : St) : St := if timB (intA s) = true then intS s else failS (intS s) 3
theorem lastB_of {x : Int} (h0 : -1 ≤ x) (h1 : x ≤ 65535) : lastB x = true := by unfold lastB; simp; omega
theorem red_e {s : St} {last : Int} (h : lastB last = true) : redE s last = (redS s last).e := by unfold redE redS; rw [if_pos h, if_pos h]
theorem uintA_le {m : Int} (h : 0 ≤ m) (s : St) : uintA m s ≤ m := by
  unfold uintA
  by_cases h0 : s.e = 0
  · rw [if_pos h0]
    by_cases h1 : uintE m s.l = 0
    · rw [if_pos h1]
      unfold uintE at h1
      split at h1
      · omega
      · split at h1
        · split at h1 <;> omega
        · omega
    · rw [if_neg h1]; exact h
  · rw [if_neg h0]; exact h

/-! records, one behind the other: how the reader stands, and those that were read -/
def rowS (s : St) : Nat → St × List Rc
  | 0 => (s, [])
  | k + 1 => if (rowS s k).1.e = 0 then (redS (rowS s k).1 (lastR (-1) (rowS s k).2), if redE (rowS s k).1 (lastR (-1) (rowS s k).2) = 0 then (rowS s k).2 ++ [redT (rowS s k).1 (lastR (-1) (rowS s k).2)] else (rowS s k).2) else rowS s k
theorem rowS_no {s : St} {k : Nat} (h : (rowS s k).1.e ≠ 0) : rowS s (k + 1) = rowS s k := by
  show (if _ then _ else _) = _
  rw [if_neg h]
theorem rowS_stuck {s : St} {k : Nat} (h : (rowS s k).1.e ≠ 0) : ∀ j, rowS s (k + j) = rowS s k
  | 0 => rfl
  | j + 1 => by
    have ih := rowS_stuck h j
    rw [← Nat.add_assoc, rowS_no (by rw [ih]; exact h), ih]
theorem rowS_one {s : St} {k : Nat} (h : (rowS s k).1.e = 0) : rowS s (k + 1) = (redS (rowS s k).1 (lastR (-1) (rowS s k).2), if redE (rowS s k).1 (lastR (-1) (rowS s k).2) = 0 then (rowS s k).2 ++ [redT (rowS s k).1 (lastR (-1) (rowS s k).2)] else (rowS s k).2) := by
  show (if _ then _ else _) = _
  rw [if_pos h]
theorem rowS_ok {s : St} (hb : Bytes s.l) : ∀ k, chainR (-1) (rowS s k).2 ∧ (rowS s k).2.length ≤ k ∧ ((rowS s k).1.e = 0 → (rowS s k).2.length = k ∧ Tk s (rowS s k).1 (encR (-1) (rowS s k).2))
  | 0 => ⟨trivial, Nat.le_refl _, fun h => ⟨rfl, Tk.refl h⟩⟩
  | k + 1 => by
    obtain ⟨h1, h2, h3⟩ := rowS_ok hb k
    by_cases he : (rowS s k).1.e = 0
    · rw [rowS_one he]
      obtain ⟨h4, h5⟩ := h3 he
      have lb := lastR_bd _ _ h1 (by omega) (by omega)
      by_cases hr : redE (rowS s k).1 (lastR (-1) (rowS s k).2) = 0
      · rw [if_pos hr]
        obtain ⟨o1, o2, o3⟩ := one_read (h5.bytes hb) hr
        refine ⟨chainR_snoc _ _ _ h1 o1 o2, by rw [List.length_append]; simp; omega, fun _ => ⟨by rw [List.length_append]; simp; omega, ?_⟩⟩
        simp only
        rw [encR_snoc]
        exact h5.trans o3
      · rw [if_neg hr]
        refine ⟨h1, by simp only; omega, fun h => absurd h ?_⟩
        simp only
        rw [← red_e (lastB_of lb.1 lb.2)]
        exact hr
    · rw [rowS_no he]
      exact ⟨h1, by omega, fun h => absurd h he⟩

/-! the whole -/
def rA (l : List Int) : St := sameS 1 (sameS 71 ⟨l, 0, 0⟩)
def rT (l : List Int) : Int := uintA 4294967295 (rA l)
def rB (l : List Int) : St := uintS 4294967295 (rA l)
def rM (l : List Int) : Int := intA (rB l)
def rC (l : List Int) : St := timS (rB l)
def rG (l : List Int) : Int := uintA (rT l) (rC l)
def rD (l : List Int) : St := uintS (rT l) (rC l)
def rP (l : List Int) : Int := if 0 < rG l then rT l - rG l else -1
def rN (l : List Int) : Int := uintA 128 (rD l)
def rQ (l : List Int) : St := uintS 128 (rD l)
def rF (l : List Int) : St × List Rc := rowS (rQ l) (rN l).toNat
def opE (l : List Int) : Int := doneA (rF l).1
def rgE (b : List Int) : Int := if 4096 < b.length then 8 else if openB b = true then opE (opened b) else 9
def rgG (b : List Int) : Gm := if rgE b = 0 then ⟨rT (opened b), rM (opened b), rP (opened b)⟩ else ⟨0, 0, 0⟩
def rgL (b : List Int) : List Rc := if rgE b = 0 then (rF (opened b)).2 else []
theorem rT_bd (l : List Int) : 0 ≤ rT l ∧ rT l ≤ 4294967295 := ⟨(uintA_bd _ _).1, uintA_le (by omega) _⟩
theorem rG_bd (l : List Int) : 0 ≤ rG l ∧ rG l ≤ rT l := ⟨(uintA_bd _ _).1, uintA_le (rT_bd l).1 _⟩
theorem rN_bd (l : List Int) : 0 ≤ rN l ∧ rN l ≤ 128 := ⟨(uintA_bd _ _).1, uintA_le (by omega) _⟩

theorem took_same {c : Int} {s : St} (hb : Bytes s.l) (h : (sameS c s).e = 0) : Tk s (sameS c s) [c] := by
  unfold sameS at h ⊢
  split at h
  · rename_i hc
    rw [if_pos hc]
    have t := took_byte hb h
    rw [hc] at t
    exact t
  · exact absurd h (fail_ne (by omega))
theorem stuck_same {c : Int} {s : St} (h : (sameS c s).e = 0) : s.e = 0 := by
  unfold sameS at h
  split at h
  · exact stuck_byte h
  · exact absurd h (fail_ne (by omega))
theorem took_tim {s : St} (hb : Bytes s.l) (h : (timS s).e = 0) : Tk s (timS s) (put (zig (intA s))) ∧ timB (intA s) = true := by
  unfold timS at h ⊢
  split at h
  · rename_i hc
    rw [if_pos hc]
    exact ⟨(took_int hb h).1, hc⟩
  · exact absurd h (fail_ne (by omega))
theorem done_ok {s : St} (h : doneA s = 0) : s.e = 0 ∧ s.l = [] := by
  unfold doneA at h
  split at h
  · rename_i he
    split at h
    · rename_i hl
      exact ⟨he, hl⟩
    · omega
  · rename_i he
    exact absurd h he

/-- A datagram that is read is written as those bytes. -/
theorem op_one {l : List Int} (hb : Bytes l) (h : opE l = 0) :
    l = hedB ⟨rT l, rM l, rP l⟩ (rF l).2.length ++ encR (-1) (rF l).2 ∧ hedE ⟨rT l, rM l, rP l⟩ (rF l).2.length = 0 ∧ chainR (-1) (rF l).2 := by
  obtain ⟨h1, h2⟩ := done_ok h
  have eF : rF l = rowS (rQ l) (rN l).toNat := rfl
  have nb := rN_bd l
  have tb := rT_bd l
  have gb := rG_bd l
  have key : ∃ (a : Tk (⟨l, 0, 0⟩ : St) (rQ l) ([71] ++ [1] ++ put (rT l) ++ put (zig (rM l)) ++ put (rG l) ++ put (rN l))), timB (rM l) = true := by
    -- from the end to the front, that nothing had failed
    have stuckRow : ∀ k, (rowS (rQ l) k).1.e = 0 → (rQ l).e = 0 := by
      intro k hk
      by_cases he : (rQ l).e = 0
      · exact he
      · have := rowS_stuck (s := rQ l) (k := 0) he k
        rw [Nat.zero_add] at this
        rw [this] at hk
        exact hk
    have hQ : (rQ l).e = 0 := stuckRow _ (by rw [← eF]; exact h1)
    have hD : (rD l).e = 0 := stuck_uint hQ
    have hC : (rC l).e = 0 := stuck_uint hD
    have hB : (rB l).e = 0 := by
      have hC' := hC
      unfold rC timS at hC'
      split at hC'
      · exact stuck_int hC'
      · exact absurd hC' (fail_ne (by omega))
    have hA : (rA l).e = 0 := stuck_uint hB
    have hA1 : (sameS 71 (⟨l, 0, 0⟩ : St)).e = 0 := stuck_same (c := 1) hA
    have t1 := took_same (c := 71) (s := ⟨l, 0, 0⟩) hb hA1
    have t2 : Tk _ (rA l) _ := took_same (t1.bytes hb) hA
    have t12 := t1.trans t2
    have t3 : Tk _ (rB l) _ := took_uint (t12.bytes hb) hB
    have t13 := t12.trans t3
    have t4 := took_tim (t13.bytes hb) hC
    have t14 : Tk _ (rC l) _ := t13.trans t4.1
    have t5 : Tk _ (rD l) _ := took_uint (t14.bytes hb) hD
    have t15 := t14.trans t5
    have t6 : Tk _ (rQ l) _ := took_uint (t15.bytes hb) hQ
    exact ⟨t15.trans t6, t4.2⟩
  obtain ⟨t, tm⟩ := key
  have ro := rowS_ok (t.bytes hb) (rN l).toNat
  rw [← eF] at ro
  obtain ⟨c1, c2, c3⟩ := ro
  obtain ⟨c4, c5⟩ := c3 h1
  have w := (t.trans c5).l
  rw [h2, List.append_nil] at w
  have eb : bkI ⟨rT l, rM l, rP l⟩ = rG l := by
    unfold bkI rP
    simp only
    split
    · split at * <;> omega
    · split at * <;> omega
  have en : ((rF l).2.length : Int) = rN l := by rw [c4]; omega
  refine ⟨?_, ?_, c1⟩
  · simp only at w
    unfold hedB
    rw [eb, en]
    exact w
  · unfold hedE
    simp only
    rw [tm]
    rw [if_neg (by unfold rP; split <;> simp <;> omega), if_neg (by unfold rP; split <;> omega), if_neg (by omega)]

/-! the other way about -/
theorem rowS_fwd (L : List Rc) (hc : chainR (-1) L) (rest : List Int) (m : Int) : ∀ k, k ≤ L.length → ∃ m', rowS ⟨encR (-1) L ++ rest, m, 0⟩ k = (⟨encR (lastR (-1) (L.take k)) (L.drop k) ++ rest, m', 0⟩, L.take k)
  | 0, _ => ⟨m, by simp [rowS, lastR]⟩
  | k + 1, h => by
    obtain ⟨m', e⟩ := rowS_fwd L hc rest m k (by omega)
    rw [rowS_one (by rw [e]), e]
    have d := drop_cons (L := L) (j := k) (by omega)
    have cd := chainR_drop L (-1) k hc
    have tk : L.take (k + 1) = L.take k ++ [L.getD k noRec] := by
      rw [List.take_add_one]
      congr 1
      have : k < L.length := by omega
      simp [List.getD, List.getElem?_eq_getElem this]
    have lt := lastR_take L (-1) k (by omega)
    rw [d] at cd
    obtain ⟨o1, o2, o3⟩ := cd
    have w := wr_read o1 o2 (encR (L.getD k noRec).i (L.drop (k + 1)) ++ rest) m'
    have eb : encR (lastR (-1) (L.take k)) (L.drop k) ++ rest = wrB (L.getD k noRec) (lastR (-1) (L.take k)) ++ (encR (L.getD k noRec).i (L.drop (k + 1)) ++ rest) := by
      rw [d, ← List.append_assoc]
      rfl
    simp only
    rw [eb, w.1, w.2.1, w.2.2, if_pos rfl, ← tk, lt]
    exact ⟨_, rfl⟩
theorem same_ok (c : Int) (r : List Int) (n : Int) : sameS c ⟨c :: r, n, 0⟩ = ⟨r, n + 1, 0⟩ := by
  have b := rd_byte (b := c) r n
  unfold sameS
  rw [if_pos b.1, b.2]
theorem op_fwd {g : Gm} {L : List Rc} (h : hedE g L.length = 0) (hc : chainR (-1) L) (rest : List Int) :
    ∃ m', rF (hedB g L.length ++ encR (-1) L ++ rest) = (⟨rest, m', 0⟩, L) ∧ rT (hedB g L.length ++ encR (-1) L ++ rest) = g.t ∧ rM (hedB g L.length ++ encR (-1) L ++ rest) = g.m ∧ rP (hedB g L.length ++ encR (-1) L ++ rest) = g.b := by
  have ho := hed_ok h
  have bk := bk_bd h
  obtain ⟨l, hl⟩ : ∃ l, hedB g L.length ++ encR (-1) L ++ rest = l := ⟨_, rfl⟩
  have e : l = 71 :: (1 :: (put g.t ++ (put (zig g.m) ++ (put (bkI g) ++ (put (L.length : Int) ++ (encR (-1) L ++ rest)))))) := by
    rw [← hl]; unfold hedB; simp
  rw [hl]
  have eA : ∃ n, rA l = ⟨put g.t ++ (put (zig g.m) ++ (put (bkI g) ++ (put (L.length : Int) ++ (encR (-1) L ++ rest)))), n, 0⟩ := by
    unfold rA
    rw [e, same_ok, same_ok]
    exact ⟨_, rfl⟩
  obtain ⟨n1, eA⟩ := eA
  have u1 := rd_uint (x := g.t) (m := 4294967295) (by omega) (by omega) (by omega) (put (zig g.m) ++ (put (bkI g) ++ (put (L.length : Int) ++ (encR (-1) L ++ rest)))) n1
  have eT : rT l = g.t := by unfold rT; rw [eA]; exact u1.1
  have eB : rB l = ⟨put (zig g.m) ++ (put (bkI g) ++ (put (L.length : Int) ++ (encR (-1) L ++ rest))), n1 + (put g.t).length, 0⟩ := by unfold rB; rw [eA]; exact u1.2
  have u2 := rd_int (x := g.m) (by unfold S64; omega) (put (bkI g) ++ (put (L.length : Int) ++ (encR (-1) L ++ rest))) (n1 + (put g.t).length)
  have eM : rM l = g.m := by unfold rM; rw [eB]; exact u2.1
  have eC : rC l = ⟨put (bkI g) ++ (put (L.length : Int) ++ (encR (-1) L ++ rest)), n1 + (put g.t).length + (put (zig g.m)).length, 0⟩ := by
    unfold rC timS
    rw [eB, if_pos (by rw [u2.1]; unfold timB; simp; omega)]
    exact u2.2
  have u3 := rd_uint (x := bkI g) (m := g.t) (by omega) (by omega) (by omega) (put (L.length : Int) ++ (encR (-1) L ++ rest)) (n1 + (put g.t).length + (put (zig g.m)).length)
  have eG : rG l = bkI g := by unfold rG; rw [eC, eT]; exact u3.1
  have eD : rD l = ⟨put (L.length : Int) ++ (encR (-1) L ++ rest), n1 + (put g.t).length + (put (zig g.m)).length + (put (bkI g)).length, 0⟩ := by unfold rD; rw [eC, eT]; exact u3.2
  have u4 := rd_uint (x := (L.length : Int)) (m := 128) (by omega) (by omega) (by omega) (encR (-1) L ++ rest) (n1 + (put g.t).length + (put (zig g.m)).length + (put (bkI g)).length)
  have eN : rN l = L.length := by unfold rN; rw [eD]; exact u4.1
  have eQ : rQ l = ⟨encR (-1) L ++ rest, n1 + (put g.t).length + (put (zig g.m)).length + (put (bkI g)).length + (put (L.length : Int)).length, 0⟩ := by unfold rQ; rw [eD]; exact u4.2
  obtain ⟨m', f⟩ := rowS_fwd L hc rest (n1 + (put g.t).length + (put (zig g.m)).length + (put (bkI g)).length + (put (L.length : Int)).length) L.length (Nat.le_refl _)
  refine ⟨m', ?_, eT, eM, ?_⟩
  · unfold rF
    rw [eN, Int.toNat_natCast, eQ, f]
    simp [encR]
  · unfold rP
    rw [eG, eT]
    unfold bkI
    split <;> split <;> omega
/-- What is written is read. -/
theorem op_back {g : Gm} {L : List Rc} (h : hedE g L.length = 0) (hc : chainR (-1) L) : opE (hedB g L.length ++ encR (-1) L) = 0 ∧ rT (hedB g L.length ++ encR (-1) L) = g.t ∧ rM (hedB g L.length ++ encR (-1) L) = g.m ∧ rP (hedB g L.length ++ encR (-1) L) = g.b ∧ (rF (hedB g L.length ++ encR (-1) L)).2 = L := by
  obtain ⟨m', e1, e2, e3, e4⟩ := op_fwd h hc []
  rw [List.append_nil] at e1 e2 e3 e4
  refine ⟨?_, e2, e3, e4, by rw [e1]⟩
  unfold opE
  rw [e1]
  rfl
/-- Bytes with one less, or one more, are not read. -/
theorem op_less {l : List Int} {c : Int} (hb : Bytes l) (h : opE l = 0) : opE (l ++ [c]) = 8 := by
  obtain ⟨e, h1, h2⟩ := op_one hb h
  obtain ⟨m', f, _⟩ := op_fwd h1 h2 [c]
  rw [← e] at f
  unfold opE
  rw [f]
  rfl
/-- A reader that has failed at the first byte. -/
theorem op_stuck {l : List Int} (h : (sameS 71 (⟨l, 0, 0⟩ : St)).e ≠ 0) : opE l = (sameS 71 (⟨l, 0, 0⟩ : St)).e := by
  obtain ⟨s, hs⟩ : ∃ s, sameS 71 (⟨l, 0, 0⟩ : St) = s := ⟨_, rfl⟩
  rw [hs] at h ⊢
  have eA : rA l = s := by unfold rA; rw [hs]; unfold sameS; rw [(byteS_e h).1, failS_e _ h]; split <;> rfl
  have eB : rB l = s := by unfold rB; rw [eA]; exact (uintS_e _ h).1
  have eC : rC l = s := by unfold rC timS; rw [eB, (intS_e h).1, failS_e _ h]; split <;> rfl
  have eD : rD l = s := by unfold rD; rw [eC]; exact (uintS_e _ h).1
  have eQ : rQ l = s := by unfold rQ; rw [eD]; exact (uintS_e _ h).1
  have eF := rowS_stuck (s := s) (k := 0) h (rN l).toNat
  rw [Nat.zero_add] at eF
  unfold opE rF
  rw [eQ, eF]
  show doneA s = s.e
  unfold doneA
  rw [if_neg h]
theorem rgE_zero {b : List Int} (h : rgE b = 0) : b.length ≤ 4096 ∧ openB b = true ∧ opE (opened b) = 0 := by
  unfold rgE at h
  split at h
  · omega
  · split at h
    · rename_i h1 h2
      exact ⟨by omega, h2, h⟩
    · omega
theorem zeros_no (n : Nat) : rgE (List.replicate n 0) = if 4096 < n then 8 else rgE (List.replicate n 0) := by
  split
  · unfold rgE
    rw [if_pos (by simpa using ‹4096 < n›)]
  · rfl
theorem zeros_e {n : Nat} (h : n ≤ 4096) : rgE (List.replicate n 0) = 9 ∨ rgE (List.replicate n 0) = 6 ∨ rgE (List.replicate n 0) = 7 := by
  unfold rgE
  rw [if_neg (by simpa using h)]
  split
  · rename_i ho
    right
    have hlen : 4 ≤ n := by
      unfold openB at ho
      simp at ho
      exact ho.1
    have eo : opened (List.replicate n 0) = List.replicate (n - 4) 0 := by
      rw [opened_yes (m := n - 4) (by simp; omega) ho]
      simp
    rw [eo]
    have hs : (sameS 71 (⟨List.replicate (n - 4) 0, 0, 0⟩ : St)).e = 6 ∨ (sameS 71 (⟨List.replicate (n - 4) 0, 0, 0⟩ : St)).e = 7 := by
      unfold sameS byteA byteS failS
      cases hn : n - 4 with
      | zero => left; simp
      | succ k => right; simp [List.replicate_succ]
    rw [op_stuck (by omega)]
    exact hs
  · exact Or.inl rfl
theorem pre_getD (L : List Rc) : pre (fun i => L.getD i noRec) L.length = L := by
  apply List.ext_getElem
  · rw [pre_len]
  · intro i h1 h2
    unfold pre
    simp [List.getD, h2]
end Go.Proofs.Ytpamjalgcloehaa

namespace Go.Proofs.Ytpamjalgcloehaa
open Go.RowKit
set_option linter.unusedVariables false
set_option maxRecDepth 8000

end Go.Proofs.Ytpamjalgcloehaa

namespace Go.Proofs.Ytpamjalgcloehaa
open Go.RowKit
set_option linter.unusedVariables false
set_option maxRecDepth 8000

theorem OwnR.chUp {R B : Nat} {w w' : World} {v : Value} {L : List Rc} (h : OwnR w B v L) (k : Ch R w w') (hB : R < B) : OwnR w' B v L := by
  refine ⟨h.1, ?_⟩
  rcases h.2 with hn | ⟨g, cap, cur, hv, hB', hg, rest⟩
  · exact Or.inl hn
  · exact Or.inr ⟨g, cap, cur, hv, hB', (k.block (by omega) (Array.getElem?_eq_some_iff.1 hg).1).trans hg, rest⟩
theorem OwnR.mono {w : World} {B B' : Nat} {v : Value} {L : List Rc} (h : OwnR w B v L) (hB : B' ≤ B) : OwnR w B' v L := by
  refine ⟨h.1, ?_⟩
  rcases h.2 with hn | ⟨g, cap, cur, hv, hB', rest⟩
  · exact Or.inl hn
  · exact Or.inr ⟨g, cap, cur, hv, Nat.le_trans hB hB', rest⟩
theorem OwnR.drew {w : World} {B : Nat} {v : Value} {L : List Rc} (h : OwnR w B v L) : OwnR w.drew B v L := h

end Go.Proofs.Ytpamjalgcloehaa

namespace Go.Proofs.Ytpamjalgcloehaa
open Go.RowKit
set_option linter.unusedVariables false
set_option maxRecDepth 20000

theorem uint_zero {m : Int} {s : St} (h : (uintS m s).e ≠ 0) : uintA m s = 0 := by
  unfold uintS at h
  unfold uintA
  by_cases h0 : s.e = 0
  · rw [if_pos h0] at h ⊢
    by_cases h1 : uintE m s.l = 0
    · rw [if_pos h1] at h; exact absurd rfl h
    · rw [if_neg h1]
  · rw [if_neg h0]
theorem size_fn (w : World) : (sizeOf 1).run Try.prog w = .ok 1 w := by
  have h : (Try.prog.info? 1).map (fun i => i.size) = some 1 := by kernel_rfl
  cases hq : Try.prog.info? 1 with
  | none => simp [hq] at h
  | some i => simp [hq] at h; simp [sizeOf, typeInfo, hq, h]
theorem Blk.four {w : World} {b : Nat} {c0 c1 c2 c3 x0 x1 x2 x3 : Value} (h : Blk w b [c0, c1, c2, c3]) : Blk ((((w.setCell ⟨b, 0, none⟩ x0).setCell ⟨b, 1, none⟩ x1).setCell ⟨b, 2, none⟩ x2).setCell ⟨b, 3, none⟩ x3) b [x0, x1, x2, x3] :=
  (((h.set 0 x0 (by simp)).set 1 x1 (by simp)).set 2 x2 (by simp)).set 3 x3 (by simp)
theorem below_four {B : Nat} {a w : World} {b : Nat} {x0 x1 x2 x3 : Value} (h : Below B a w) (hb : B ≤ b) : Below B a ((((w.setCell ⟨b, 0, none⟩ x0).setCell ⟨b, 1, none⟩ x1).setCell ⟨b, 2, none⟩ x2).setCell ⟨b, 3, none⟩ x3) :=
  (((h.setCell (p := ⟨b, 0, none⟩) hb _).setCell (p := ⟨b, 1, none⟩) hb _).setCell (p := ⟨b, 2, none⟩) hb _).setCell (p := ⟨b, 3, none⟩) hb _
theorem ownR_four {B : Nat} {w : World} {b : Nat} {x0 x1 x2 x3 v : Value} {L : List Rc} (h : OwnR w B v L) (hb : b < B) : OwnR ((((w.setCell ⟨b, 0, none⟩ x0).setCell ⟨b, 1, none⟩ x1).setCell ⟨b, 2, none⟩ x2).setCell ⟨b, 3, none⟩ x3) B v L :=
  h.chUp (((((Ch.refl b w).set 0 _).set 1 _).set 2 _).set 3 _) hb

end Go.Proofs.Ytpamjalgcloehaa

namespace Go.Proofs.Ytpamjalgcloehaa
open Go.RowKit
set_option linter.unusedVariables false

theorem chain_mem : ∀ (L : List Rc) (last : Int), chainR last L → ∀ r ∈ L, r.ok
  | [], _, _, r, h => absurd h (by simp)
  | x :: L, last, ⟨h1, _, h3⟩, r, h => by
    rcases List.mem_cons.1 h with e | e
    · rw [e]; exact h1
    · exact chain_mem L x.i h3 r e
theorem chain_at {L : List Rc} {last : Int} (h : chainR last L) : ∀ i, i < L.length → (L.getD i noRec).ok := by
  intro i hi
  refine chain_mem L last h _ ?_
  have : L.getD i noRec = L[i] := by simp [List.getD, hi]
  rw [this]
  exact List.getElem_mem hi
theorem op_opened {x : List Int} (h : openB x = true) : 4 ≤ x.length ∧ (opened x).length + 4 = x.length ∧ sealed (opened x) = x := by
  have h4 : 4 ≤ x.length := by
    by_cases hf : x.length < 4
    · rw [open_few hf] at h; exact absurd h (by simp)
    · omega
  have e := opened_yes (m := x.length - 4) (by omega) h
  refine ⟨h4, by rw [e, List.length_take]; omega, ?_⟩
  rw [e]
  exact (open_app (by omega)).1 h
/-- A datagram that is read may be, and is written as those bytes. -/
theorem one_gram {x : List Int} (hb : Bytes x) (h : rgE x = 0) :
    (rgG x).ok ∧ (∀ i, i < (rgL x).length → ((rgL x).getD i noRec).ok) ∧ gmE (rgG x) (fun i => (rgL x).getD i noRec) (rgL x).length = 0 ∧ wrtE (rgG x) (fun i => (rgL x).getD i noRec) (rgL x).length = 0 ∧ wrtB (rgG x) (fun i => (rgL x).getD i noRec) (rgL x).length = x := by
  obtain ⟨h1, h2, h3⟩ := rgE_zero h
  have eG : rgG x = ⟨rT (opened x), rM (opened x), rP (opened x)⟩ := by unfold rgG; rw [if_pos h]
  have eL : rgL x = (rF (opened x)).2 := by unfold rgL; rw [if_pos h]
  have hbo : Bytes (opened x) := by unfold opened; rw [if_pos h2]; exact hb.take _
  obtain ⟨o1, o2, o3⟩ := op_opened h2
  obtain ⟨e1, e2, e3⟩ := op_one hbo h3
  rw [← eG, ← eL] at e1 e2
  rw [← eL] at e3
  have ho := hed_ok e2
  have gb : gmB (rgG x) (fun i => (rgL x).getD i noRec) (rgL x).length = opened x := by
    unfold gmB
    rw [pre_getD]
    exact e1.symm
  have ge : gmE (rgG x) (fun i => (rgL x).getD i noRec) (rgL x).length = 0 := by
    unfold gmE
    rw [if_pos e2, pre_getD]
    exact fir_chain _ _ e3
  have we : wrtE (rgG x) (fun i => (rgL x).getD i noRec) (rgL x).length = 0 := by
    unfold wrtE
    rw [if_pos ge, gb, if_neg (by omega)]
  refine ⟨⟨by unfold S64; omega, by unfold S64; omega, by unfold S64; omega⟩, chain_at e3, ge, we, ?_⟩
  unfold wrtB
  rw [if_pos we, gb, o3]
/-- What is written is read. -/
theorem back_gram {g : Gm} {A : Nat → Rc} {n : Nat} (ok : ∀ i, i < n → (A i).ok) (h : wrtE g A n = 0) :
    rgE (wrtB g A n) = 0 ∧ rgG (wrtB g A n) = g ∧ rgL (wrtB g A n) = pre A n ∧ (wrtB g A n).length = (gmB g A n).length + 4 ∧ wrtB g A n = sealed (gmB g A n) ∧ 6 ≤ (gmB g A n).length := by
  obtain ⟨h1, h2⟩ := wrt_ok h
  have h3 := gm_head h1
  have hc := gm_chain ok h1
  have e : wrtB g A n = sealed (gmB g A n) := by unfold wrtB; rw [if_pos h]
  have eo : opened (wrtB g A n) = gmB g A n := by rw [e]; exact sealed_opened _
  have ob : openB (wrtB g A n) = true := by rw [e]; exact sealed_open _
  have el : (wrtB g A n).length = (gmB g A n).length + 4 := by rw [e]; exact sealed_len _
  have hL : (pre A n).length = n := pre_len A n
  have b := op_back (g := g) (L := pre A n) (by rw [hL]; exact h3) hc
  rw [hL] at b
  have eg : hedB g n ++ encR (-1) (pre A n) = gmB g A n := rfl
  rw [eg] at b
  obtain ⟨b1, b2, b3, b4, b5⟩ := b
  have re : rgE (wrtB g A n) = 0 := by
    unfold rgE
    rw [if_neg (by omega), if_pos ob, eo]
    exact b1
  refine ⟨re, ?_, ?_, el, e, ?_⟩
  · unfold rgG
    rw [if_pos re, eo, b2, b3, b4]
  · unfold rgL
    rw [if_pos re, eo, b5]
  · have p1 := put_pos g.t
    have p2 := put_pos (zig g.m)
    have p3 := put_pos (bkI g)
    have p4 := put_pos (n : Int)
    unfold gmB hedB
    simp only [List.length_append, List.length_cons, List.length_nil]
    omega
/-- Without its last byte it isn't. -/
theorem cut_gram {g : Gm} {A : Nat → Rc} {n : Nat} (ok : ∀ i, i < n → (A i).ok) (h : wrtE g A n = 0) : rgE ((wrtB g A n).take ((wrtB g A n).length - 1)) ≠ 0 := by
  intro hz
  obtain ⟨b1, _, _, el, es, e6⟩ := back_gram ok h
  obtain ⟨h1, h2⟩ := wrt_ok h
  have hb := (gmB_ok ok h1).1
  obtain ⟨z1, z2, z3⟩ := rgE_zero hz
  obtain ⟨y1, y2, y3⟩ := rgE_zero b1
  have eo : opened (wrtB g A n) = gmB g A n := by rw [es]; exact sealed_opened _
  rw [eo] at y3
  obtain ⟨M, hM⟩ : ∃ M, (gmB g A n).length = M + 1 := ⟨(gmB g A n).length - 1, by omega⟩
  have lt : ((wrtB g A n).take ((wrtB g A n).length - 1)).length = M + 4 := by rw [List.length_take]; omega
  have ec : opened ((wrtB g A n).take ((wrtB g A n).length - 1)) = (gmB g A n).take M := by
    rw [opened_yes lt z2, List.take_take, es]
    unfold sealed
    rw [List.take_append_of_le_length (by rw [List.length_append] ; simp [four] at * ; omega)]
    congr 1
    rw [List.length_append]
    simp [four]
    omega
  rw [ec] at z3
  have split : gmB g A n = (gmB g A n).take M ++ [(gmB g A n).getD M 0] := by
    have := own_split (gmB g A n) M (by omega)
    have d : (gmB g A n).drop (M + 1) = [] := List.drop_eq_nil_of_le (by omega)
    rw [d] at this
    exact this
  have := op_less (c := (gmB g A n).getD M 0) (hb.take M) z3
  rw [← split, y3] at this
  omega
/-- With a byte turned it isn't opened. -/
theorem turned_gram {g : Gm} {A : Nat → Rc} {n : Nat} (ok : ∀ i, i < n → (A i).ok) (h : wrtE g A n = 0) {j : Nat} (hj : j < (wrtB g A n).length) {x : Int} (hx : 0 ≤ x ∧ x ≤ 255) (hne : x ≠ (wrtB g A n).getD j 0) : rgE ((wrtB g A n).set j x) = 9 := by
  obtain ⟨b1, _, _, el, es, e6⟩ := back_gram ok h
  obtain ⟨h1, h2⟩ := wrt_ok h
  have hb := (gmB_ok ok h1).1
  have t := turned_no hb (j := j) (by omega) hx (by rw [← es]; exact hne)
  unfold rgE
  rw [if_neg (by rw [List.length_set]; omega), es, t]
  simp
end Go.Proofs.Ytpamjalgcloehaa

namespace Go.Proofs.Ytpamjalgcloehaa
open Go.RowKit
set_option linter.unusedVariables false
set_option maxRecDepth 8000
attribute [local go_sem ↓] eqR_run

theorem below_drewN {B : Nat} {a w : World} (h : Below B a w) (N : Nat) : Below B a (w.drewN N) := ⟨h.os, h.tape, h.output, h.size, h.block⟩
theorem RdR.drewN {w : World} {v : Value} {n : Nat} {A : Nat → Rc} (h : RdR w v n A) (N : Nat) : RdR (w.drewN N) v n A := h
theorem rdR_at {w : World} {ao : Option Addr} {n cap : Nat} {A : Nat → Rc} (h : RdR w (.slice ao n cap) n A) {k : Nat} (hk : k < n) : ∃ b o, ao = some ⟨b, o, none⟩ ∧ b < w.heap.size ∧ ∀ j x, (recC (A k))[j]? = some x → w.cell? ⟨b, o + k * 9 + j, none⟩ = some x := by
  obtain ⟨ao', cap', e, _, _, h3⟩ := h
  injection e with e1 e2 e3
  subst e1 e3
  obtain ⟨b', o, rfl, hcell⟩ := h3.resolve_left (by omega)
  exact ⟨b', o, rfl, World.block_lt_of_cell? w _ (hcell k hk 0 _ rfl), hcell k hk⟩
end Go.Proofs.Ytpamjalgcloehaa

namespace Go.Proofs.Ytpamjalgcloehaa
open Go.RowKit
set_option linter.unusedVariables false
set_option maxRecDepth 20000

theorem growR_wp {w : World} {ops : Array Oper} {rest : List Oper} {o : Oper} {a : Act} {Q : Exit → Act → World → Prop} (hgd : o.guard = none) (s x : Operand)
    (ho : o.op = .call { callee := .builtin .append, args := #[s, x], argTypes := #[30, 30] })
    (B : Nat) (v : Value) (L : List Rc) (hs : a.eval s = v) (hown : OwnR w B v L) (g0 : Nat) (r : Rc) (hx : a.eval x = .slice (some ⟨g0, 0, none⟩) 1 1)
    (hr : ∀ j u, (recC r)[j]? = some u → w.cell? ⟨g0, j, none⟩ = some u) (hlen : L.length ≤ 1000000) (hB : B ≤ w.heap.size)
    (h : ∀ v' w', OwnR w' B v' (L ++ [r]) → Grow B v w v' w' → wpList Try.prog ops Q rest (a.put o.dst v') w') : wpList Try.prog ops Q (o :: rest) a w :=
  wpList_plain hgd fun K hK => growR_op s x ho B v L hs hown g0 r hx hr hlen hB fun v' w' h1 h2 => hK _ _ (h v' w' h1 h2)
theorem rdr_e {w : World} {K R : Nat} {s : St} (h : Rdr w K R s) : w.cell? ⟨R, 2, none⟩ = some (.int .i64 s.e) := by obtain ⟨v, h⟩ := h; exact h.c2
end Go.Proofs.Ytpamjalgcloehaa
