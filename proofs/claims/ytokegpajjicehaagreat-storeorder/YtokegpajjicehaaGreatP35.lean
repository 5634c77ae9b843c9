/-
  Texts St11, St12, Stp, St13, Fr12, St15, St16, St17 in one.
-/
import Derived.Shelf.Abstract
import Derived.SizedLaws
import Derived.Deep.Slices
import Derived.Deep.LoopGhost
import Derived.Test.YtokegpajjicehaaGreatP34
namespace Go.Proofs.YtokegpajjicehaaGreat
open Go.RowKit
set_option linter.unusedVariables false
set_option maxRecDepth 20000

theorem Own.chs {B C S R : Nat} {v v' u : Value} {l : List Int} {w w' : World} (hu : Own w C u l) (h : Chs B S R v v' w w') (ha : ∀ g, u.ownBlock = some g → g ≠ S ∧ g ≠ R ∧ some g ≠ v.ownBlock) : Own w' C u l ∧ ∀ g, u.ownBlock = some g → g ≠ S ∧ g ≠ R ∧ some g ≠ v'.ownBlock := by
  refine ⟨⟨hu.1, ?_⟩, fun g hg => ?_⟩
  · rcases hu.2 with hn | ⟨g, cap, cur, hv', hB, hg, rest⟩
    · exact Or.inl hn
    · have hgl : g < w.heap.size := (Array.getElem?_eq_some_iff.1 hg).1
      subst hv'
      obtain ⟨a1, a2, a3⟩ := ha g rfl
      exact Or.inr ⟨g, cap, cur, rfl, hB, (h.block g hgl a1 a2 a3).trans hg, rest⟩
  · obtain ⟨a1, a2, a3⟩ := ha g hg
    exact ⟨a1, a2, h.off (hu.lt g hg).2 a3⟩
/-- A store's row lies in a block. -/
theorem StoV.low {w : World} {B S R : Nat} {v : Value} {rs : Rs} {s : Sto} (h : StoV w B S R v rs s) : S < w.heap.size ∧ R < w.heap.size ∧ (∀ g, v.ownBlock = some g → g < w.heap.size) ∧ s.L.length ≤ 64 ∧ B ≤ w.heap.size :=
  ⟨h.blk.lt, h.rng.blk.lt, fun g hg => (h.rng.own.lt g hg).2, by have h1 := h.rng.ok.len; have h2 := h.rng.ok.most; have h3 := h.len; omega, Nat.le_trans h.le (Nat.le_of_lt h.blk.lt)⟩
/-- What is new is not the store's. -/
theorem StoV.apart {w : World} {B S R : Nat} {v : Value} {rs : Rs} {s : Sto} (h : StoV w B S R v rs s) {g : Nat} (hg : w.heap.size ≤ g) : g ≠ S ∧ g ≠ R ∧ some g ≠ v.ownBlock := by
  obtain ⟨h1, h2, h3, _, _⟩ := h.low
  exact ⟨by omega, by omega, fun e => by have := h3 g e.symm; omega⟩
theorem by_any (w : World) (g : Gm) (ok : g.ok) (v : Value) (n : Nat) (A : Nat → Rc) (hA : ∀ i, i < n → (A i).ok) (hv : RdR w v n A) :
    Calls Tryz.prog 39 #[gmV g v] w fun e w' => ∃ u, e = .returned u ∧ Own w' w.heap.size u (wrtB g A n) ∧ Below w.heap.size w w' := by
  have HB : Hid (∀ w', Below w.heap.size w w' → Calls Tryz.prog 32 #[gmV g v] w' fun e w'' => ∃ u, e = .returned (.tuple #[u, .int .i64 (wrtE g A n)]) ∧ Own w'' w'.heap.size u (wrtB g A n) ∧ Below w'.heap.size w' w'') := fun w' h => gm_write w' g ok v n A hA (hv.below h)
  obtain ⟨E, hE⟩ : ∃ E, wrtE g A n = E := ⟨_, rfl⟩
  rw [hE] at HB
  clear hE hA ok
  obtain ⟨ao, cap, rfl, hc, hm, _⟩ := hv
  obtain ⟨t, m, b⟩ := g
  go_enter Tryz.func39, Tryz.ntmps39
  go_wp2_with fail
  generalize hW : w.alloc (.cells #[.int .i64 t, .int .i64 m, .int .i64 b, .slice ao n cap] 29) = W
  obtain ⟨A0, b0, _⟩ := boxed hW
  clear hW
  refine (HB.out _ b0).mono ?_; rintro e w1 ⟨u1, rfl, o1, g1⟩
  have HH : Hid (Own w1 w.heap.size u1 (wrtB ⟨t, m, b⟩ A n) ∧ Below w.heap.size w w1) := ⟨o1.mono b0.size, bup b0 (Nat.le_refl _) g1⟩
  clear o1 g1
  go_wp2_with fail
  go_ret
  exact ⟨_, rfl, HH.out.1, HH.out.2⟩

/-! the example's numbers -/
abbrev noA : Nat → Rc := fun _ => noRec
def xB (g : Gm) : List Int := wrtB g noA 0
abbrev xg1 : Gm := ⟨1, 10, -1⟩
abbrev xg2 : Gm := ⟨3, 30, 1⟩
abbrev xg3 : Gm := ⟨2, 20, 1⟩
theorem x_ok1 : xg1.ok := ⟨by unfold S64; simp only; omega, by unfold S64; simp only; omega, by unfold S64; simp only; omega⟩
theorem x_ok2 : xg2.ok := ⟨by unfold S64; simp only; omega, by unfold S64; simp only; omega, by unfold S64; simp only; omega⟩
theorem x_ok3 : xg3.ok := ⟨by unfold S64; simp only; omega, by unfold S64; simp only; omega, by unfold S64; simp only; omega⟩
theorem x_w1 : wrtE xg1 noA 0 = 0 := by kernel_rfl
theorem x_w2 : wrtE xg2 noA 0 = 0 := by kernel_rfl
theorem x_w3 : wrtE xg3 noA 0 = 0 := by kernel_rfl
theorem x_rg {g : Gm} (h : wrtE g noA 0 = 0) : rgE (xB g) = 0 ∧ rgG (xB g) = g ∧ rgL (xB g) = [] ∧ Bytes (xB g) ∧ (xB g).length ≤ 140737488355328 := by
  obtain ⟨h3, h4, h5, h6, h7, h8⟩ := back_gram (g := g) (A := noA) (n := 0) (fun i hi => absurd hi (by omega)) h
  have h9 := rgE_zero h3
  have hb : Bytes (wrtB g noA 0) := by rw [h7]; exact sealed_ok (gmB_ok (fun i hi => absurd hi (by omega)) (wrt_ok h).1).1
  exact ⟨h3, h4, h5, hb, by have := h9.1; unfold xB; omega⟩
/-- What comes of bytes that are read. -/
theorem acc_is {s : Sto} {l : List Int} {g : Gm} (h : rgE l = 0 ∧ rgG l = g ∧ rgL l = [] ∧ Bytes l ∧ l.length ≤ 140737488355328) :
    tkE s l = stpE s.M s.L g [] ∧ tkT s l = (if stpE s.M s.L g [] = 0 then g.t else 0) ∧ accS s l = ⟨s.M, if stpE s.M s.L g [] = 0 then keepS s.M s.L (tkX s.L g []) else s.L, incN s.N (stpE s.M s.L g [])⟩ := by
  obtain ⟨h1, h2, h3, _, _⟩ := h
  have e : tkE s l = stpE s.M s.L g [] := by unfold tkE; rw [if_pos h1, h2, h3]
  refine ⟨e, by unfold tkT; rw [e, h2], ?_⟩
  unfold accS tkL
  rw [e, h2, h3]
def xs1 : Sto := ⟨4, [⟨1, 10, []⟩], [1, 0, 0, 0, 0, 0, 0, 0, 0, 0, 0, 0, 0, 0, 0, 0, 0, 0]⟩
def xs2 : Sto := ⟨4, [⟨1, 10, []⟩, ⟨3, 30, []⟩], [2, 0, 0, 0, 0, 0, 0, 0, 0, 0, 0, 0, 0, 0, 0, 0, 0, 0]⟩
def xs3 : Sto := ⟨4, [⟨1, 10, []⟩, ⟨2, 20, []⟩, ⟨3, 30, []⟩], [3, 0, 0, 0, 0, 0, 0, 0, 0, 0, 0, 0, 0, 0, 0, 0, 0, 0]⟩
def xs4 : Sto := ⟨4, [⟨1, 10, []⟩, ⟨2, 20, []⟩, ⟨3, 30, []⟩], [3, 0, 0, 0, 0, 0, 0, 0, 0, 0, 0, 0, 1, 0, 0, 0, 0, 0]⟩
theorem x_a1 : tkE (emptyS 4) (xB xg1) = 0 ∧ tkT (emptyS 4) (xB xg1) = 1 ∧ accS (emptyS 4) (xB xg1) = xs1 := by
  obtain ⟨h1, h2, h3⟩ := acc_is (s := emptyS 4) (x_rg x_w1)
  rw [h1, h2, h3]; exact ⟨by kernel_rfl, by kernel_rfl, by kernel_rfl⟩
theorem x_a2 : tkE xs1 (xB xg2) = 0 ∧ tkT xs1 (xB xg2) = 3 ∧ accS xs1 (xB xg2) = xs2 := by
  obtain ⟨h1, h2, h3⟩ := acc_is (s := xs1) (x_rg x_w2)
  rw [h1, h2, h3]; exact ⟨by kernel_rfl, by kernel_rfl, by kernel_rfl⟩
theorem x_a3 : tkE xs2 (xB xg3) = 0 ∧ tkT xs2 (xB xg3) = 2 ∧ accS xs2 (xB xg3) = xs3 := by
  obtain ⟨h1, h2, h3⟩ := acc_is (s := xs2) (x_rg x_w3)
  rw [h1, h2, h3]; exact ⟨by kernel_rfl, by kernel_rfl, by kernel_rfl⟩
theorem x_a4 : tkE xs3 (xB xg2) = 12 ∧ tkT xs3 (xB xg2) = 0 ∧ accS xs3 (xB xg2) = xs4 := by
  obtain ⟨h1, h2, h3⟩ := acc_is (s := xs3) (x_rg x_w2)
  rw [h1, h2, h3]; exact ⟨by kernel_rfl, by kernel_rfl, by kernel_rfl⟩
/-- A store, rows of bytes, and a row of these. -/
structure AlV (w0 w : World) (H LB : Nat) (us : List (Value × List Int)) (v : Value) (rs : Rs) (s : Sto) : Prop where
  sto : StoV w H (H + 1) H v rs s
  blk : Blk w LB (us.map (·.1))
  off : LB ≠ H + 1 ∧ LB ≠ H ∧ some LB ≠ v.ownBlock
  rows : ∀ p ∈ us, Own w H p.1 p.2 ∧ ∀ g, p.1.ownBlock = some g → g ≠ H + 1 ∧ g ≠ H ∧ some g ≠ v.ownBlock
  bel : Below H w0 w
theorem AlV.below {w0 w w' : World} {H LB : Nat} {us : List (Value × List Int)} {v : Value} {rs : Rs} {s : Sto} (h : AlV w0 w H LB us v rs s) (hb : Below w.heap.size w w') : AlV w0 w' H LB us v rs s :=
  ⟨h.sto.below hb, h.blk.below hb h.blk.lt, h.off, fun p hp => ⟨(h.rows p hp).1.below hb, (h.rows p hp).2⟩, h.bel.trans (hb.mono (by have := h.sto.low.2.1; omega))⟩
theorem AlV.acc {w0 w : World} {H LB : Nat} {us : List (Value × List Int)} {v : Value} {rs : Rs} {s : Sto} (h : AlV w0 w H LB us v rs s) (u : Value) (l : List Int) (hp : (u, l) ∈ us) (hb : Bytes l) (hl : l.length ≤ 140737488355328) :
    Calls Tryz.prog 24 #[.pointer (some ⟨H + 1, 0, none⟩), u] w fun e w' => e = .returned (.tuple #[.int .i64 (tkT s l), .int .i64 (tkE s l)]) ∧ ∃ v' rs', AlV w0 w' H LB us v' rs' (accS s l) := by
  refine (st_accept w H (H + 1) H v rs s h.sto h.sto.low.2.2.2.1 u l hb hl (h.rows _ hp).1.rd).mono ?_
  rintro e w' ⟨rfl, v', rs', S', C'⟩
  refine ⟨rfl, v', rs', S', h.blk.chs C' h.off.1 h.off.2.1 h.off.2.2, ⟨h.off.1, h.off.2.1, C'.off h.blk.lt h.off.2.2⟩, fun p hp => (h.rows p hp).1.chs C' (h.rows p hp).2, h.bel.trans C'.below⟩
theorem Own.own_ge {w : World} {B : Nat} {u : Value} {l : List Int} (h : Own w B u l) : ∀ g, u.ownBlock = some g → B ≤ g := fun g hg => (h.lt g hg).1
set_option maxHeartbeats 8000000 in
theorem st_alive (w : World) : Calls Tryz.prog 21 #[] w fun e w' => e = .returned (.bool true) ∧ Below w.heap.size w w' := by
  go_enter Tryz.func21, Tryz.ntmps21
  go_wp2_with fail
  refine (st_new w 4 (by omega) (by omega)).mono ?_; rintro e w1 ⟨rfl, S1, b1⟩
  obtain ⟨H, hH⟩ : ∃ H, w.heap.size = H := ⟨_, rfl⟩
  have HH : Hid (w.heap.size = H) := hH
  rw [hH] at S1 b1
  rw [hH]
  have SS1 : Hid (StoV w1 H (H + 1) H (.slice none 0 0) (emptyR 4) (emptyS 4)) := S1
  have B1 : Hid (Below H w w1) := b1
  clear S1 b1 hH
  go_wp2_with fail
  refine (by_any w1 xg1 x_ok1 (.slice none 0 0) 0 noA (fun i hi => absurd hi (by omega)) (RdR.none _)).mono ?_; rintro e w2 ⟨u1, rfl, o1, b2⟩
  have hw1 : H + 1 < w1.heap.size := SS1.out.blk.lt
  have hw2 := b2.size
  have SS2 : Hid (StoV w2 H (H + 1) H (.slice none 0 0) (emptyR 4) (emptyS 4)) := SS1.out.below b2
  have B2 : Hid (Below H w w2) := bup B1.out (Nat.le_of_eq HH.out.symm) b2
  have O1 : Hid (Own w2 (H + 1 + 1) u1 (xB xg1)) := Own.mono o1 (by omega)
  clear SS1 B1 o1 b2
  have hw2' : H + 1 < w2.heap.size := by omega
  clear hw1 hw2
  go_wp2_with fail
  refine (by_any w2 xg2 x_ok2 (.slice none 0 0) 0 noA (fun i hi => absurd hi (by omega)) (RdR.none _)).mono ?_; rintro e w3 ⟨u2, rfl, o2, b3⟩
  have hw3 := b3.size
  have SS3 : Hid (StoV w3 H (H + 1) H (.slice none 0 0) (emptyR 4) (emptyS 4)) := SS2.out.below b3
  have B3 : Hid (Below H w w3) := bup B2.out (Nat.le_of_eq HH.out.symm) b3
  have O12 : Hid (Own w3 (H + 1 + 1) u1 (xB xg1)) := O1.out.below b3
  have O22 : Hid (Own w3 (H + 1 + 1) u2 (xB xg2)) := Own.mono o2 (by omega)
  clear SS2 B2 O1 o2 b3
  have hw3' : H + 1 < w3.heap.size := by omega
  clear hw2' hw3
  go_wp2_with fail
  refine (by_any w3 xg3 x_ok3 (.slice none 0 0) 0 noA (fun i hi => absurd hi (by omega)) (RdR.none _)).mono ?_; rintro e w4 ⟨u3, rfl, o3, b4⟩
  have hw4 := b4.size
  have SS4 : Hid (StoV w4 H (H + 1) H (.slice none 0 0) (emptyR 4) (emptyS 4)) := SS3.out.below b4
  have B4 : Hid (Below H w w4) := bup B3.out (Nat.le_of_eq HH.out.symm) b4
  have O13 : Hid (Own w4 (H + 1 + 1) u1 (xB xg1)) := O12.out.below b4
  have O23 : Hid (Own w4 (H + 1 + 1) u2 (xB xg2)) := O22.out.below b4
  have O33 : Hid (Own w4 (H + 1 + 1) u3 (xB xg3)) := Own.mono o3 (by omega)
  clear SS3 B3 O12 O22 o3 b4
  have hw4' : H + 1 < w4.heap.size := by omega
  clear hw3' hw4
  obtain ⟨a1, k1, e1, -⟩ := O13.out.rd
  obtain ⟨a2, k2, e2, -⟩ := O23.out.rd
  obtain ⟨a3, k3, e3, -⟩ := O33.out.rd
  obtain ⟨n1, hn1⟩ : ∃ x, (xB xg1).length = x := ⟨_, rfl⟩
  obtain ⟨n2, hn2⟩ : ∃ x, (xB xg2).length = x := ⟨_, rfl⟩
  obtain ⟨n3, hn3⟩ : ∃ x, (xB xg3).length = x := ⟨_, rfl⟩
  rw [hn1] at e1
  rw [hn2] at e2
  rw [hn3] at e3
  subst e1 e2 e3
  clear hn1 hn2 hn3
  go_upto_region 5 with fail
  generalize hW : w4.alloc (.cells #[.slice a1 n1 k1, .slice a2 n2 k2, .slice a3 n3 k3] 55) = W5
  obtain ⟨L5, b5, -⟩ := boxed hW
  obtain ⟨LB, hLB⟩ : ∃ x, w4.heap.size = x := ⟨_, rfl⟩
  have AL0 : Hid (AlV w W5 H LB [(.slice a1 n1 k1, xB xg1), (.slice a2 n2 k2, xB xg2), (.slice a3 n3 k3, xB xg3)] (.slice none 0 0) (emptyR 4) (emptyS 4)) := by
    rw [hLB] at L5 hw4'
    refine ⟨SS4.out.below b5, L5, ⟨by omega, by omega, by simp [Value.ownBlock]⟩, fun p hp => ?_, bup B4.out (Nat.le_of_eq HH.out.symm) b5⟩
    have one : ∀ u l, Own w4 (H + 1 + 1) u l → Own W5 H u l ∧ ∀ g, u.ownBlock = some g → g ≠ H + 1 ∧ g ≠ H ∧ some g ≠ (Value.slice none 0 0).ownBlock := fun u l o => ⟨(o.below b5).mono (by omega), fun g hg => by
      have := o.own_ge g hg
      exact ⟨by omega, by omega, by simp [Value.ownBlock]⟩⟩
    simp only [List.mem_cons, List.not_mem_nil, or_false] at hp
    rcases hp with rfl | rfl | rfl
    · exact one _ _ O13.out
    · exact one _ _ O23.out
    · exact one _ _ O33.out
  rw [hLB]
  obtain ⟨c1, c2, c3, c4⟩ : (Bytes (xB xg1) ∧ (xB xg1).length ≤ 140737488355328) ∧ (Bytes (xB xg2) ∧ (xB xg2).length ≤ 140737488355328) ∧ (Bytes (xB xg3) ∧ (xB xg3).length ≤ 140737488355328) ∧ True := ⟨(x_rg x_w1).2.2.2, (x_rg x_w2).2.2.2, (x_rg x_w3).2.2.2, trivial⟩
  have HC1 : Hid _ := c1
  have HC2 : Hid _ := c2
  have HC3 : Hid _ := c3
  clear hW hLB L5 b5 SS4 B4 O13 O23 O33 hw4' c1 c2 c3 c4
  -- the first
  have l0 := AL0.out.blk.cell 0 _ rfl
  go_wp2_with fail
  refine wp_loop_rounds 4 ?_
  rw [rounds_succ]
  go_wp2_with fail
  refine (AL0.out.acc (.slice a1 n1 k1) (xB xg1) (by simp) HC1.out.1 HC1.out.2).mono ?_; rintro e w6 ⟨rfl, v6, rs6, A6⟩
  rw [x_a1.1, x_a1.2.1]
  have AL1 : Hid (AlV w w6 H LB [(.slice a1 n1 k1, xB xg1), (.slice a2 n2 k2, xB xg2), (.slice a3 n3 k3, xB xg3)] v6 rs6 xs1) := by
    have := A6
    rw [x_a1.2.2] at this
    exact this
  clear A6 AL0 l0
  go_wp2_with fail
  obtain ⟨V1, hV1⟩ : ∃ V, w6.alloc (.cells #[.int .i64 1, .int .i64 3, .int .i64 2] 2) = V := ⟨_, rfl⟩
  have AM1 : Hid (AlV w V1 H LB [(.slice a1 n1 k1, xB xg1), (.slice a2 n2 k2, xB xg2), (.slice a3 n3 k3, xB xg3)] v6 rs6 xs1) := AL1.out.below (by rw [← hV1]; exact (Below.refl _ _).alloc (Nat.le_refl _) _)
  rw [hV1]
  clear hV1 AL1
  have l1 := AM1.out.blk.cell 1 _ rfl
  rw [rounds_succ]
  go_wp2_with fail
  refine (AM1.out.acc (.slice a2 n2 k2) (xB xg2) (by simp) HC2.out.1 HC2.out.2).mono ?_; rintro e w7 ⟨rfl, v7, rs7, A7⟩
  rw [x_a2.1, x_a2.2.1]
  have AL2 : Hid (AlV w w7 H LB [(.slice a1 n1 k1, xB xg1), (.slice a2 n2 k2, xB xg2), (.slice a3 n3 k3, xB xg3)] v7 rs7 xs2) := by
    have := A7
    rw [x_a2.2.2] at this
    exact this
  clear A7 AM1 l1
  go_wp2_with fail
  obtain ⟨V2, hV2⟩ : ∃ V, w7.alloc (.cells #[.int .i64 1, .int .i64 3, .int .i64 2] 2) = V := ⟨_, rfl⟩
  have AM2 : Hid (AlV w V2 H LB [(.slice a1 n1 k1, xB xg1), (.slice a2 n2 k2, xB xg2), (.slice a3 n3 k3, xB xg3)] v7 rs7 xs2) := AL2.out.below (by rw [← hV2]; exact (Below.refl _ _).alloc (Nat.le_refl _) _)
  rw [hV2]
  clear hV2 AL2
  have l2 := AM2.out.blk.cell 2 _ rfl
  rw [rounds_succ]
  go_wp2_with fail
  refine (AM2.out.acc (.slice a3 n3 k3) (xB xg3) (by simp) HC3.out.1 HC3.out.2).mono ?_; rintro e w8 ⟨rfl, v8, rs8, A8⟩
  rw [x_a3.1, x_a3.2.1]
  have AL3 : Hid (AlV w w8 H LB [(.slice a1 n1 k1, xB xg1), (.slice a2 n2 k2, xB xg2), (.slice a3 n3 k3, xB xg3)] v8 rs8 xs3) := by
    have := A8
    rw [x_a3.2.2] at this
    exact this
  clear A8 AM2 l2
  go_wp2_with fail
  obtain ⟨V3, hV3⟩ : ∃ V, w8.alloc (.cells #[.int .i64 1, .int .i64 3, .int .i64 2] 2) = V := ⟨_, rfl⟩
  have AM3 : Hid (AlV w V3 H LB [(.slice a1 n1 k1, xB xg1), (.slice a2 n2 k2, xB xg2), (.slice a3 n3 k3, xB xg3)] v8 rs8 xs3) := AL3.out.below (by rw [← hV3]; exact (Below.refl _ _).alloc (Nat.le_refl _) _)
  rw [hV3]
  clear hV3 AL3
  have l1 := AM3.out.blk.cell 1 _ rfl
  rw [rounds_succ]
  go_wp2_with fail
  refine (AM3.out.acc (.slice a2 n2 k2) (xB xg2) (by simp) HC2.out.1 HC2.out.2).mono ?_; rintro e w9 ⟨rfl, v9, rs9, A9⟩
  rw [x_a4.1, x_a4.2.1]
  have AL4 : Hid (AlV w w9 H LB [(.slice a1 n1 k1, xB xg1), (.slice a2 n2 k2, xB xg2), (.slice a3 n3 k3, xB xg3)] v9 rs9 xs4) := by
    have := A9
    rw [x_a4.2.2] at this
    exact this
  clear A9 AM3 l1
  go_wp2_with fail
  refine (st_at w9 H (H + 1) H v9 rs9 xs4 AL4.out.sto 1 (by decide) (by decide)).mono ?_; rintro e w10 ⟨u, rfl, o10, b10⟩
  have AL5 : Hid (AlV w w10 H LB [(.slice a1 n1 k1, xB xg1), (.slice a2 n2 k2, xB xg2), (.slice a3 n3 k3, xB xg3)] v9 rs9 xs4) := AL4.out.below b10
  obtain ⟨au, ku, e10⟩ := o10.form
  obtain ⟨nu, hnu⟩ : ∃ x, (preE (atE (atS xs4.L 1).E) (atS xs4.L 1).E.length).length = x := ⟨_, rfl⟩
  rw [hnu] at e10
  subst e10
  clear AL4 b10 o10 hnu
  have et : (atS xs4.L 1).t = 2 := rfl
  have em : (atS xs4.L 1).m = 20 := rfl
  rw [et, em]
  clear et em
  go_upto_region 14 with fail
  generalize hV : w10.alloc (.cells #[.int .i64 2, .int .i64 20, .slice au nu ku] 24) = W11
  obtain ⟨X11, bn, -⟩ := boxed hV
  have AL6 : Hid (AlV w W11 H LB [(.slice a1 n1 k1, xB xg1), (.slice a2 n2 k2, xB xg2), (.slice a3 n3 k3, xB xg3)] v9 rs9 xs4) := AL5.out.below bn
  obtain ⟨PX, hPX⟩ : ∃ x, w10.heap.size = x := ⟨_, rfl⟩
  rw [hPX] at X11
  rw [hPX]
  clear hV hPX bn AL5
  have x0 := X11.cell 0 _ rfl
  have lx := X11.lt
  go_wp2_with fail
  refine (st_len W11 H (H + 1) H v9 rs9 xs4 AL6.out.sto).mono ?_; rintro e w12 ⟨rfl, rfl⟩
  have e3 : ((xs4.L.length : Nat) : Int) = 3 := rfl
  rw [e3]
  clear e3
  go_wp2_with fail
  refine (st_taken w12 H (H + 1) H v9 rs9 xs4 AL6.out.sto).mono ?_; rintro e w13 ⟨rfl, rfl⟩
  have e3 : xs4.N.getD 0 0 = 3 := rfl
  rw [e3]
  clear e3
  go_wp2_with fail
  refine (st_refused w13 H (H + 1) H v9 rs9 xs4 AL6.out.sto 12 (by omega) (by omega)).mono ?_; rintro e w14 ⟨rfl, rfl⟩
  have e3 : xs4.N.getD 12 0 = 1 := rfl
  rw [e3]
  clear e3
  go_wp2_with fail
  go_ret
  exact ⟨rfl, by rw [HH.out]; exact AL6.out.bel⟩
end Go.Proofs.YtokegpajjicehaaGreat

namespace Go.Proofs.YtokegpajjicehaaGreat
open Go.RowKit
set_option linter.unusedVariables false
set_option maxRecDepth 20000
end Go.Proofs.YtokegpajjicehaaGreat

namespace Go.Proofs.YtokegpajjicehaaGreat
open Go.RowKit
set_option linter.unusedVariables false
set_option maxRecDepth 20000

end Go.Proofs.YtokegpajjicehaaGreat

namespace Go.Proofs.YtokegpajjicehaaGreat
open Go.RowKit
set_option linter.unusedVariables false
set_option maxRecDepth 20000

theorem StoV.by_ {w w' : World} {B S R g : Nat} {v : Value} {rs : Rs} {s : Sto} (h : StoV w B S R v rs s) (hg : w.grownBy w' (some g)) (hgB : g < B) : StoV w' B S R v rs s := by
  have hS := h.le
  have hR := h.rng.le
  refine ⟨h.blk.by_ hg (fun e => by injection e with e; omega), ⟨h.rng.blk.by_ hg (fun e => by injection e with e; omega), h.rng.own.kept hg ?_, h.rng.ok, h.rng.ones, h.rng.ne, h.rng.le⟩, h.most, h.kept.mono ?_, h.ne, h.nev, h.le, h.num⟩
  · cases hq : v.ownBlock with
    | none => exact Or.inl rfl
    | some q => exact Or.inr (fun e => by have := (h.rng.own.lt q hq).1; injection e with e; omega)
  · rintro p s ⟨ao, n, c, rfl, h1, h2⟩
    refine ⟨ao, n, c, rfl, World.ownsRow.kept h1 hg ?_, h2⟩
    cases hq : (Value.slice ao n c).ownBlock with
    | none => exact Or.inl rfl
    | some q => exact Or.inr (fun e => by have := (h1.lt q hq).1; injection e with e; omega)
/-- Of rows that are written: what is at some cells. -/
def CellW (w : World) (g k : Nat) (n : Nat) (P : Value → Prop) : Prop := ∀ i, i < n → ∃ x, P x ∧ w.cell? ⟨g, i * 9 + k, none⟩ = some x ∧ w.frozen? ⟨g, i * 9 + k, none⟩ = false
theorem CellW.below {w w' : World} {g k n : Nat} {P : Value → Prop} (h : CellW w g k n P) (hb : Below w.heap.size w w') (hg : g < w.heap.size) : CellW w' g k n P := fun i hi => by
  obtain ⟨x, h1, h2, h3⟩ := h i hi
  exact ⟨x, h1, (hb.cell (p := ⟨g, i * 9 + k, none⟩) hg).trans h2, (hb.frozen (p := ⟨g, i * 9 + k, none⟩) hg).trans h3⟩
end Go.Proofs.YtokegpajjicehaaGreat

namespace Go.Proofs.YtokegpajjicehaaGreat
open Go.ChangeShapes Go.WideShapes Go.ChangeAt Go.RowKit
variable {H : Type} {enc : TypeId × Value → H}

/-- A value that reads as these rows of bytes, by index. -/
def RdBB (w : World) (v : Value) (n : Nat) (L : Nat → List Int) : Prop :=
  ∃ ao cap, v = .slice ao n cap ∧ n ≤ cap ∧ cap ≤ 9223372036854775807 ∧ (n = 0 ∨ ∃ b o, ao = some ⟨b, o, none⟩ ∧ ∀ i, i < n → ∃ u, w.cell? ⟨b, o + i, none⟩ = some u ∧ Rd w u (L i))
theorem weights_all {P : Program} {e : TypeId} {d : DataW H} {n : Nat} (hn : n ∈ d.weights P e) : ∀ {l : List (DataW H)}, d ∈ l → n ∈ DataW.weightsAll P e l
  | [], h => by cases h
  | x :: l, h => by
    simp only [DataW.weightsAll, List.mem_append]
    rcases List.mem_cons.1 h with rfl | h
    · exact Or.inl hn
    · exact Or.inr (weights_all hn h)
theorem cells_bs : Tryz.prog.cellsOf 55 = 1 := by kernel_rfl
theorem bytes8' : Tryz.prog.bytesOf 5 = 1 := by kernel_rfl
/-- A row of bytes, off its one cell. -/
theorem open_row {W : World} {fuel : Nat} {cs : List Value} {d : DataW H} {p : List MemPlace} (h : DataW.trod enc Tryz.prog W 0 (fun _ => true) true fuel 55 cs = some (d, p)) :
    ∃ (u : Value) (l : List Int), cs = [u] ∧ Bytes l ∧ Rd W u l ∧ ((∀ k ∈ d.weights Tryz.prog 55, k ≤ reachBytes) → l.length ≤ 140737488351232) := by
  rcases open_ints Tryz.underlying55 Tryz.underlying5 (by kernel_rfl) h with ⟨hcs, hx⟩ | ⟨a, len, cap, zs, hcs, _, hl, hm, hz, hx, hcell, hwz⟩
  · exact ⟨_, [], hcs, (fun n hn => by simp at hn), ⟨none, 0, rfl, Nat.le_refl _, by omega, fun _ => rfl, Or.inl rfl⟩, fun _ => by simp⟩
  · simp only [if_true] at hz
    have hlen : (zs.take len).length = len := List.length_take_of_le (by omega)
    refine ⟨_, zs.take len, hcs, fun n hn => wf_u8 (hwz n (List.mem_of_mem_take hn)), ⟨some a, cap, by rw [hlen], by omega, hm, fun h => by simp at h, ?_⟩, fun hw => ?_⟩
    · by_cases h0 : len = 0
      · left; rw [h0]; rfl
      · right
        obtain ⟨ab, ao, spot⟩ := a
        have hspot : spot = none := by simpa [Addr.add] using World.cell?_spot (hcell 0 (by omega))
        subst hspot
        refine ⟨ab, ao, rfl, fun i hi => ?_⟩
        rw [hlen] at hi
        have := hcell i (by omega)
        rw [Addr.add_lit] at this
        rw [this]
        simp [List.getD, hi]
    · injection hx with hx1 hx2
      subst hx1
      have := hw _ (by rw [DataW.weights, Tryz.underlying55]; exact List.mem_cons_self)
      rw [bytes8'] at this
      simp only [lits, List.length_map, List.length_take, List.length_drop, reachBytes] at this
      rw [hlen]
      omega
set_option maxRecDepth 20000 in
theorem open_bss {W : World} {base : Nat} {v : Value} {d : DataW H} {p : List MemPlace} (hval : Value.okWide Tryz.prog W .any base 47 v) (h : DataW.Trod enc Tryz.prog W 0 (fun _ => true) true 47 v d p) :
    ∃ (n : Nat) (L : Nat → List Int), (∀ i, i < n → Bytes (L i)) ∧ RdBB W v n L ∧ ((∀ k ∈ d.weights Tryz.prog 47, k ≤ reachBytes) → ∀ i, i < n → (L i).length ≤ 140737488351232) := by
  obtain ⟨a1, len, cap1, rfl⟩ := okWide_slice Tryz.underlying47 hval
  obtain ⟨fuel, hf⟩ := h
  rcases Go.Deep.open_slice Tryz.underlying47 hf with ⟨hcs, hx⟩ | ⟨a, len2, cap, m, n, D, Pl, hcs, _, hl, hm, hmm, hx, hel⟩
  · simp [Value.cells] at hcs
    obtain ⟨rfl, rfl, rfl⟩ := hcs
    exact ⟨0, fun _ => [], fun i hi => by omega, ⟨none, 0, rfl, Nat.le_refl _, by omega, Or.inl rfl⟩, fun _ i hi => by omega⟩
  · simp [Value.cells] at hcs
    obtain ⟨rfl, rfl, rfl⟩ := hcs
    simp only [if_true] at hmm
    subst hmm
    rw [cells_bs] at hel
    have each : ∀ i, i < m → ∃ l : List Int, Bytes l ∧ (∃ u, W.cell? (a.add i) = some u ∧ Rd W u l) ∧ ((∀ k ∈ (D i).weights Tryz.prog 55, k ≤ reachBytes) → l.length ≤ 140737488351232) := by
      intro i hi
      obtain ⟨cs', h1, h2⟩ := hel i hi
      obtain ⟨_, hlen, hcell⟩ := World.cells?_some h1
      obtain ⟨u, l, rfl, hb, hr, hs⟩ := open_row h2
      have c0 := hcell 0 (by simp)
      rw [Go.Deep.add_add, Nat.mul_one, Nat.add_zero] at c0
      refine ⟨l, hb, ⟨u, ?_, hr⟩, hs⟩
      simpa using c0
    obtain ⟨L, hL⟩ := Go.Deep.choose_lt each
    injection hx with hx1 hx2
    refine ⟨len, L, fun i hi => (hL i (by omega)).1, ⟨some a, m, rfl, hl, hm, ?_⟩, fun hw i hi => (hL i (by omega)).2.2 fun k hk => ?_⟩
    · by_cases h0 : len = 0
      · exact Or.inl h0
      · right
        obtain ⟨ab, ao, spot⟩ := a
        obtain ⟨u0, hu0, _⟩ := (hL 0 (by omega)).2.1
        have hspot : spot = none := by simpa [Addr.add] using World.cell?_spot hu0
        subst hspot
        refine ⟨ab, ao, rfl, fun i hi => ?_⟩
        obtain ⟨u, hu, hr⟩ := (hL i (by omega)).2.1
        rw [Addr.add_lit] at hu
        exact ⟨u, hu, hr⟩
    · refine hw k ?_
      rw [hx1, DataW.weights, Tryz.underlying47]
      exact List.mem_cons_of_mem _ (List.mem_append_left _ (weights_all hk (List.mem_map.2 ⟨i, List.mem_range.2 hi, rfl⟩)))
end Go.Proofs.YtokegpajjicehaaGreat

namespace Go.Proofs.YtokegpajjicehaaGreat
open Go.RowKit
set_option linter.unusedVariables false
set_option maxRecDepth 20000

theorem aplL_len (t m : Int) (L : List En) (g : Gm) (A : Nat → Rc) (n : Nat) : (aplL t m L g A n).length ≤ 64 := by
  unfold aplL
  split
  · rename_i h
    unfold aplE at h
    split at h
    · split at h
      · rename_i h1; exact absurd h h1.2
      · split at h
        · exact absurd h (by decide)
        · split at h
          · exact absurd h (by decide)
          · rename_i M hM
            rw [hM]
            split at h
            · exact absurd h (by decide)
            · rename_i h2; simpa using h2
    · rename_i h1; exact absurd h h1
  · simp
theorem unt_zero {L : List Sn} {k : Int} : untS L k = 0 ↔ ∀ y ∈ L, k < y.t := by
  unfold untS
  rw [List.countP_eq_zero]
  constructor
  · intro h y hy; have := h y hy; simp at this; exact this
  · intro h y hy; have := h y hy; simp; exact this
theorem unt_cons (h : Sn) (L : List Sn) (k : Int) : untS (h :: L) k = untS L k + (if h.t ≤ k then 1 else 0) := by
  unfold untS
  rw [List.countP_cons]
  simp
theorem unt_at : ∀ {L : List Sn} {k : Int}, RiseT L → ∀ i, i < L.length → ((atS L i).t ≤ k ↔ i < untS L k)
  | [], k, _, i, hi => by simp at hi
  | h :: L, k, hr, i, hi => by
    obtain ⟨h1, h2⟩ := List.pairwise_cons.1 hr
    have hz : ¬ h.t ≤ k → untS L k = 0 := fun hh => unt_zero.2 fun y hy => by have := h1 y hy; omega
    rw [unt_cons]
    cases i with
    | zero =>
      show h.t ≤ k ↔ _
      by_cases hh : h.t ≤ k
      · rw [if_pos hh]; omega
      · rw [if_neg hh, hz hh]; omega
    | succ i =>
      have ih := unt_at (k := k) h2 i (by simp at hi; omega)
      show (atS L i).t ≤ k ↔ _
      rw [ih]
      by_cases hh : h.t ≤ k
      · rw [if_pos hh]; omega
      · rw [if_neg hh, hz hh]; omega
theorem atS_mem {L : List Sn} {i : Nat} (h : i < L.length) : atS L i ∈ L := by
  unfold atS; rw [List.getD_eq_getElem?_getD, List.getElem?_eq_getElem h]; exact List.getElem_mem h
theorem is_iff {L : List Sn} (hr : RiseT L) (k : Int) : isS L k = true ↔ ∃ y ∈ L, y.t = k := by
  have hle := untS_le L k
  constructor
  · intro h
    unfold isS at h
    simp at h
    exact ⟨_, atS_mem (by omega), h.2⟩
  · rintro ⟨y, hy, rfl⟩
    obtain ⟨i, hi, rfl⟩ := List.getElem_of_mem hy
    have e : ∀ j (hj : j < L.length), atS L j = L[j] := fun j hj => by unfold atS; rw [List.getD_eq_getElem?_getD, List.getElem?_eq_getElem hj]; rfl
    have h1 := (unt_at (k := L[i].t) hr i hi).1 (by rw [e i hi]; exact Int.le_refl _)
    have h2 := (unt_at (k := L[i].t) hr (untS L L[i].t - 1) (by omega)).2 (by omega)
    unfold isS
    simp
    refine ⟨by omega, ?_⟩
    rcases Nat.lt_or_eq_of_le (show i ≤ untS L L[i].t - 1 by omega) with hlt | heq
    · have h3 := List.pairwise_iff_getElem.1 hr i (untS L L[i].t - 1) hi (by omega) hlt
      rw [e _ (by omega)] at h2
      omega
    · rw [← heq, e i hi]
theorem mem_laidS {L : List Sn} {x y : Sn} : y ∈ laidS L x ↔ y = x ∨ y ∈ L := by
  unfold laidS
  rw [List.mem_append, List.mem_cons]
  constructor
  · rintro (h | h | h)
    · exact Or.inr (List.mem_of_mem_take h)
    · exact Or.inl h
    · exact Or.inr (List.mem_of_mem_drop h)
  · rintro (h | h)
    · exact Or.inr (Or.inl h)
    · rw [← List.take_append_drop (untS L x.t) L, List.mem_append] at h
      rcases h with h | h
      · exact Or.inl h
      · exact Or.inr (Or.inr h)
/-- Kept, or below all that are kept where there are as many as there may be. -/
def Gone (M : Nat) (L : List Sn) (k : Int) : Prop := isS L k = true ∨ (L.length = M ∧ untS L k = 0)
/-- What is laid, and the least one let go. -/
theorem laid_split {L : List Sn} {x : Sn} (hr : RiseT L) (hn : isS L x.t = false) (hp : 0 < untS L x.t) : ∃ h T, L = h :: T ∧ laidS L x = h :: (laidS L x).tail ∧ h.t < x.t ∧ (∀ y ∈ (laidS L x).tail, y = x ∨ y ∈ T) ∧ (x ∈ (laidS L x).tail) ∧ (∀ y ∈ T, y ∈ (laidS L x).tail) ∧ ∀ y ∈ (laidS L x).tail, h.t < y.t := by
  cases L with
  | nil => simp [untS] at hp
  | cons h T =>
    obtain ⟨h1, h2⟩ := List.pairwise_cons.1 hr
    have hle : h.t ≤ x.t := (unt_at (k := x.t) hr 0 (by simp)).2 hp
    have hne : h.t ≠ x.t := fun e => by
      have := (is_iff hr x.t).2 ⟨h, List.mem_cons_self, e⟩
      rw [this] at hn; cases hn
    obtain ⟨u, hu⟩ : ∃ u, untS (h :: T) x.t = u + 1 := ⟨untS (h :: T) x.t - 1, by omega⟩
    have e : laidS (h :: T) x = h :: (T.take u ++ x :: T.drop u) := by
      unfold laidS; rw [hu, List.take_succ_cons, List.drop_succ_cons]; rfl
    refine ⟨h, T, rfl, by rw [e]; rfl, by omega, ?_, ?_, ?_, ?_⟩
    · rw [e]
      intro y hy
      show y = x ∨ y ∈ T
      rcases List.mem_append.1 hy with hy | hy
      · exact Or.inr (List.mem_of_mem_take hy)
      · rcases List.mem_cons.1 hy with hy | hy
        · exact Or.inl hy
        · exact Or.inr (List.mem_of_mem_drop hy)
    · rw [e]; exact List.mem_append_right _ List.mem_cons_self
    · rw [e]
      intro y hy
      show y ∈ T.take u ++ x :: T.drop u
      rw [← List.take_append_drop u T, List.mem_append] at hy
      rcases hy with hy | hy
      · exact List.mem_append_left _ hy
      · exact List.mem_append_right _ (List.mem_cons_of_mem _ hy)
    · rw [e]
      intro y hy
      have hy' : y ∈ T.take u ++ x :: T.drop u := hy
      rcases List.mem_append.1 hy' with hy | hy
      · exact h1 y (List.mem_of_mem_take hy)
      · rcases List.mem_cons.1 hy with hy | hy
        · rw [hy]; omega
        · exact h1 y (List.mem_of_mem_drop hy)
theorem stp_zero {M : Nat} {L : List Sn} {g : Gm} {R : List Rc} (h : stpE M L g R = 0) : isS L g.t = false ∧ ¬ (L.length = M ∧ untS L g.t = 0) := by
  unfold stpE at h
  split at h
  · exact absurd h (by decide)
  · split at h
    · exact absurd h (by decide)
    · rename_i h1 h2
      exact ⟨by simpa using h1, h2⟩
theorem keep_new {M : Nat} {L : List Sn} {x : Sn} (hr : RiseT L) (hr' : RiseT (keepS M L x)) (hl : L.length ≤ M) (hn : isS L x.t = false) (hs : ¬ (L.length = M ∧ untS L x.t = 0)) : Gone M (keepS M L x) x.t := by
  left
  refine (is_iff hr' x.t).2 ⟨x, ?_, rfl⟩
  unfold keepS
  split
  · exact mem_laidS.2 (Or.inl rfl)
  · have hp : 0 < untS L x.t := by
      rcases Nat.eq_zero_or_pos (untS L x.t) with h | h
      · exact absurd ⟨by omega, h⟩ hs
      · exact h
    obtain ⟨h, T, e1, e2, h3, h4, h5, h6, h7⟩ := laid_split hr hn hp
    exact h5
theorem keep_old {M : Nat} {L : List Sn} {x : Sn} {k : Int} (hr : RiseT L) (hr' : RiseT (keepS M L x)) (hl : L.length ≤ M) (hn : isS L x.t = false) (hs : ¬ (L.length = M ∧ untS L x.t = 0)) (h : Gone M L k) : Gone M (keepS M L x) k := by
  by_cases hlt : L.length < M
  · have e : keepS M L x = laidS L x := if_pos hlt
    rw [e] at hr' ⊢
    rcases h with h | h
    · left
      obtain ⟨y, hy, rfl⟩ := (is_iff hr k).1 h
      exact (is_iff hr' _).2 ⟨y, mem_laidS.2 (Or.inr hy), rfl⟩
    · omega
  · have e : keepS M L x = (laidS L x).tail := if_neg hlt
    rw [e] at hr' ⊢
    have hp : 0 < untS L x.t := by
      rcases Nat.eq_zero_or_pos (untS L x.t) with h | h
      · exact absurd ⟨by omega, h⟩ hs
      · exact h
    obtain ⟨h0, T, e1, e2, h3, h4, h5, h6, h7⟩ := laid_split hr hn hp
    have hlen : (laidS L x).tail.length = M := by rw [List.length_tail, laidS_len]; omega
    rcases h with h | h
    · obtain ⟨y, hy, rfl⟩ := (is_iff hr k).1 h
      rw [e1] at hy
      rcases List.mem_cons.1 hy with rfl | hy
      · exact Or.inr ⟨hlen, unt_zero.2 h7⟩
      · exact Or.inl ((is_iff hr' _).2 ⟨y, h6 y hy, rfl⟩)
    · right
      refine ⟨hlen, unt_zero.2 fun y hy => ?_⟩
      have hz := unt_zero.1 h.2
      have h0k : k < h0.t := hz h0 (by rw [e1]; exact List.mem_cons_self)
      have := h7 y hy
      omega
theorem tk_new {s : Sto} {l : List Int} (hr : RiseT s.L) (hr' : RiseT (tkL s l)) (hl : s.L.length ≤ s.M) (h : tkE s l = 0) : rgE l = 0 ∧ Gone s.M (tkL s l) (rgG l).t := by
  have h0 : rgE l = 0 := by
    unfold tkE at h
    split at h
    · assumption
    · exact h
  have hs : stpE s.M s.L (rgG l) (rgL l) = 0 := by unfold tkE at h; rw [if_pos h0] at h; exact h
  obtain ⟨a, b⟩ := stp_zero hs
  have e : tkL s l = keepS s.M s.L (tkX s.L (rgG l) (rgL l)) := if_pos h
  rw [e] at hr' ⊢
  exact ⟨h0, keep_new (x := tkX s.L (rgG l) (rgL l)) hr hr' hl a b⟩
theorem tk_old {s : Sto} {l : List Int} {k : Int} (hr : RiseT s.L) (hr' : RiseT (tkL s l)) (hl : s.L.length ≤ s.M) (hg : Gone s.M s.L k) : Gone s.M (tkL s l) k := by
  by_cases h : tkE s l = 0
  · have h0 : rgE l = 0 := by
      unfold tkE at h
      split at h
      · assumption
      · exact h
    have hs : stpE s.M s.L (rgG l) (rgL l) = 0 := by unfold tkE at h; rw [if_pos h0] at h; exact h
    obtain ⟨a, b⟩ := stp_zero hs
    have e : tkL s l = keepS s.M s.L (tkX s.L (rgG l) (rgL l)) := if_pos h
    rw [e] at hr' ⊢
    exact keep_old (x := tkX s.L (rgG l) (rgL l)) hr hr' hl a b hg
  · have e : tkL s l = s.L := if_neg h
    rw [e]; exact hg
/-- No snapshot that is kept has more entities than there may be. -/
def Few (L : List Sn) : Prop := ∀ y ∈ L, y.E.length ≤ 64
theorem few_tk {s : Sto} {l : List Int} (h : Few s.L) : Few (tkL s l) := by
  unfold tkL
  split
  · have hx : (tkX s.L (rgG l) (rgL l)).E.length ≤ 64 := aplL_len _ _ _ _ _ _
    have hl : Few (laidS s.L (tkX s.L (rgG l) (rgL l))) := fun y hy => by
      rcases mem_laidS.1 hy with rfl | hy
      · exact hx
      · exact h y hy
    unfold keepS
    split
    · exact hl
    · exact fun y hy => hl y (List.mem_of_mem_tail hy)
  · exact h
theorem StoV.rise {w : World} {B S R : Nat} {v : Value} {rs : Rs} {s : Sto} (h : StoV w B S R v rs s) : RiseT s.L := Fa2.rise Kp.key h.kept h.rng.ok.rise
theorem StoV.lens {w : World} {B S R : Nat} {v : Value} {rs : Rs} {s : Sto} (h : StoV w B S R v rs s) : s.L.length ≤ s.M ∧ s.M ≤ 64 := by
  have h1 := h.kept.len
  have h2 := h.rng.ok.len
  have h3 := h.rng.ok.most
  have h4 := h.most
  omega
end Go.Proofs.YtokegpajjicehaaGreat

namespace Go.Proofs.YtokegpajjicehaaGreat
open Go.RowKit
set_option linter.unusedVariables false
set_option maxRecDepth 20000

/-- A value that a call owns, of these cells (their type: e). -/
def OwnL (e : TypeId) (w : World) (B : Nat) (v : Value) (L : List Value) : Prop := w.ownsRow B e 1 v L.length L
section
variable {e : TypeId} {w w' : World} {B : Nat} {v : Value} {L : List Value}
theorem OwnL.nil (w : World) (B : Nat) : OwnL e w B (.slice none 0 0) [] := World.ownsRow_nil w B _ _
theorem OwnL.lt (h : OwnL e w B v L) : ∀ k, v.ownBlock = some k → B ≤ k ∧ k < w.heap.size := World.ownsRow.lt h
theorem OwnL.kept (h : OwnL e w B v L) {r : Option Nat} (hg : w.grownBy w' r) (hr : v.ownBlock = none ∨ v.ownBlock ≠ r) : OwnL e w' B v L := World.ownsRow.kept h hg hr
theorem OwnL.below (h : OwnL e w B v L) (hb : Below w.heap.size w w') : OwnL e w' B v L := by
  refine ⟨h.1, ?_⟩
  rcases h.2 with hn | ⟨g, cap, cur, hv, hB, hg, rest⟩
  · exact Or.inl hn
  · exact Or.inr ⟨g, cap, cur, hv, hB, (hb.block g (Array.getElem?_eq_some_iff.1 hg).1).trans hg, rest⟩
theorem OwnL.drewN (h : OwnL e w B v L) (n : Nat) : OwnL e (w.drewN n) B v L := h
theorem OwnL.form (h : OwnL e w B v L) : ∃ ao cap, v = .slice ao L.length cap ∧ L.length ≤ cap ∧ cap ≤ 9223372036854775807 ∧ (ao = none → cap = 0) := by
  rcases h.2 with ⟨rfl, h0⟩ | ⟨g, cap, cur, hv, hb, hg, hc, hm, _⟩
  · exact ⟨none, 0, by rw [h0], by omega, by omega, fun _ => rfl⟩
  · exact ⟨_, cap, hv, hc, hm, fun h => by simp at h⟩
theorem OwnL.some_ (h : OwnL e w B v L) (hl : L ≠ []) : ∃ g cap cur, v = .slice (some ⟨g, 0, none⟩) L.length cap ∧ B ≤ g ∧ w.heap[g]? = some (.cells cur e (0, 0)) ∧ L.length ≤ cap ∧ cap ≤ 9223372036854775807 ∧ cur.size = cap * 1 ∧ cur.toList.take (L.length * 1) = L := by
  have hp := List.length_pos_iff.2 hl
  rcases h.2 with ⟨_, h0⟩ | h
  · omega
  · exact h
theorem rowL_at {g cap : Nat} {cur : Array Value} (hg : w.heap[g]? = some (.cells cur e (0, 0))) (hc : L.length ≤ cap) (hs : cur.size = cap * 1) (ht : cur.toList.take (L.length * 1) = L) (j : Nat) (u : Value) (h : L[j]? = some u) : w.cell? ⟨g, j, none⟩ = some u := by
  have hj : j < L.length * 1 := by have := (List.getElem?_eq_some_iff.1 h).1; omega
  rw [row_cell hg, ← h]
  conv => rhs; rw [← ht]
  rw [List.getElem?_take, if_pos hj]
  simp
theorem OwnL.at (h : OwnL e w B v L) {g n cap : Nat} (hv : v = .slice (some ⟨g, 0, none⟩) n cap) {i : Nat} {u : Value} (hi : L[i]? = some u) : w.cell? ⟨g, i, none⟩ = some u := by
  obtain ⟨g', cap', cur, hv', hB, hg, hc, hm, hs, ht⟩ := h.some_ (by intro h; rw [h] at hi; simp at hi)
  rw [hv] at hv'; injection hv' with h1 _ _; injection h1 with h1; injection h1 with h1 _ _; subst h1
  exact rowL_at hg hc hs ht _ _ hi
theorem OwnL.mono {C : Nat} (h : OwnL e w B v L) (hC : C ≤ B) : OwnL e w C v L := by
  refine ⟨h.1, ?_⟩
  rcases h.2 with hn | ⟨g, cap, cur, hv, hB, rest⟩
  · exact Or.inl hn
  · exact Or.inr ⟨g, cap, cur, hv, Nat.le_trans hC hB, rest⟩
end
theorem own_type {e : TypeId} {w : World} {B sz n : Nat} {v : Value} {xs : List Value} (h : w.ownsRow B e sz v n xs) {g : Nat} (hg : v.ownBlock = some g) : ∃ cur, w.heap[g]? = some (.cells cur e (0, 0)) := by
  rcases h.2 with ⟨rfl, _⟩ | ⟨k, cap, cur, rfl, hB, hk, _⟩
  · simp [Value.ownBlock] at hg
  · have : k = g := Option.some.inj hg
    subst this; exact ⟨cur, hk⟩
/-- Rows of things of two types lie in two blocks. -/
theorem own_apart {e e' : TypeId} (he : e ≠ e') {w : World} {B B' sz sz' n n' : Nat} {v v' : Value} {xs xs' : List Value} (h : w.ownsRow B e sz v n xs) (h' : w.ownsRow B' e' sz' v' n' xs') : v.ownBlock = none ∨ v.ownBlock ≠ v'.ownBlock := by
  cases hq : v.ownBlock with
  | none => exact Or.inl rfl
  | some g =>
    right
    intro hq'
    obtain ⟨c, hc⟩ := own_type h hq
    obtain ⟨c', hc'⟩ := own_type h' hq'.symm
    rw [hc] at hc'
    injection hc' with hc'
    injection hc' with _ h2 _
    exact he h2
/-- The row's block is not the store's, nor its ring's. -/
def Offs (S R : Nat) (a : Value) : Prop := some S ≠ a.ownBlock ∧ some R ≠ a.ownBlock
theorem OwnL.chs {e : TypeId} (hO : e ≠ 128) {w w' : World} {B C S R : Nat} {v v' a : Value} {rs : Rs} {s : Sto} {L : List Value} (ho : OwnL e w C a L) (h : StoV w B S R v rs s) (hs : Offs S R a) (k : Chs B S R v v' w w') : OwnL e w' C a L := by
  refine ⟨ho.1, ?_⟩
  have hap := own_apart hO ho h.rng.own
  rcases ho.2 with hn | ⟨g, cap, cur, hv', hB, hg, rest⟩
  · exact Or.inl hn
  · have hgl : g < w.heap.size := (Array.getElem?_eq_some_iff.1 hg).1
    subst hv'
    refine Or.inr ⟨g, cap, cur, rfl, hB, (k.block g hgl (fun e => hs.1 (by rw [← e]; rfl)) (fun e => hs.2 (by rw [← e]; rfl)) (fun e => ?_)).trans hg, rest⟩
    rcases hap with h' | h'
    · cases h'
    · exact h' (by rw [← e]; rfl)
def mostN (n : Int) : Nat := 1 + (n % 64).toNat
theorem most_bd (n : Int) : 1 ≤ mostN n ∧ mostN n ≤ 64 := by unfold mostN; omega
theorem most_any (w : World) (n : Int) : Calls Tryz.prog 20 #[.int .i64 n] w fun e w' => e = .returned (.int .i64 (mostN n : Nat)) ∧ w' = w := by
  have e0 : ((mostN n : Nat) : Int) = 1 + n % 64 := by unfold mostN; omega
  rw [e0]
  have h1 : IntKind.u64.wrap n = n % 18446744073709551616 := IntKind.wrap_u64 n
  have h2 : Int.tmod (n % 18446744073709551616) 64 = n % 64 := by
    rw [Int.tmod_eq_emod_of_nonneg (by omega)]; omega
  have h3 : IntKind.i64.wrap (n % 64) = n % 64 := by rw [IntKind.wrap_i64]; omega
  have h4 : IntKind.i64.wrap (1 + n % 64) = 1 + n % 64 := by rw [IntKind.wrap_i64]; omega
  have h5 : IntKind.u64.wrap (n % 64) = n % 64 := by rw [IntKind.wrap_u64]; omega
  go_enter Tryz.func20, Tryz.ntmps20
  go_wp2_with fail
  go_ret
  exact ⟨rfl, rfl⟩

/-- How many bytes these are together. -/
def sumL (L : Nat → List Int) : Nat → Nat
  | 0 => 0
  | n + 1 => sumL L n + (L n).length
theorem sumL_le {L : Nat → List Int} {n : Nat} (h : ∀ i, i < n → (L i).length ≤ 140737488351232) : ∀ k, k ≤ n → sumL L k ≤ k * 140737488351232
  | 0, _ => by simp [sumL]
  | k + 1, hk => by
    have := sumL_le h k (by omega)
    have := h k (by omega)
    unfold sumL; omega
theorem sumL_at {L : Nat → List Int} : ∀ {n i : Nat}, i < n → (L i).length ≤ sumL L n
  | n + 1, i, h => by
    unfold sumL
    rcases Nat.lt_or_eq_of_le (Nat.le_of_lt_succ h) with h | rfl
    · have := sumL_at (L := L) h; omega
    · omega
/-- The sum, as it is reckoned. -/
def sumW (L : Nat → List Int) : Nat → Int
  | 0 => 0
  | n + 1 => IntKind.i64.wrap (sumW L n + ((L n).length : Int))
theorem sumW_eq {L : Nat → List Int} {n : Nat} (hn : n ≤ 60) (h : ∀ i, i < n → (L i).length ≤ 140737488351232) : ∀ k, k ≤ n → sumW L k = (sumL L k : Nat)
  | 0, _ => rfl
  | k + 1, hk => by
    have h1 := sumW_eq hn h k (by omega)
    have h2 := sumL_le h k (by omega)
    have h3 := h k (by omega)
    show IntKind.i64.wrap (sumW L k + ((L k).length : Int)) = ((sumL L k + (L k).length : Nat) : Int)
    rw [h1, IntKind.wrap_i64]
    omega
def greatB (L : Nat → List Int) (n : Nat) : Bool := decide (60 < n) || decide (20000 < sumW L n)
theorem great_no {L : Nat → List Int} {n : Nat} (h : ∀ i, i < n → (L i).length ≤ 140737488351232) (hg : greatB L n = false) : n ≤ 60 ∧ ∀ i, i < n → (L i).length ≤ 20000 := by
  unfold greatB at hg
  simp at hg
  refine ⟨hg.1, fun i hi => ?_⟩
  have h1 := sumW_eq hg.1 h n (Nat.le_refl _)
  have h2 := sumL_at (L := L) hi
  omega
theorem st_great (w : World) (v : Value) (n : Nat) (L : Nat → List Int) (hv : RdBB w v n L) : Calls Tryz.prog 22 #[v] w fun e w' => e = .returned (.bool (greatB L n)) ∧ w' = w := by
  obtain ⟨ao, cap, rfl, h1, h2, h3⟩ := hv
  have P3 : Hid _ := h3
  clear h3
  go_enter Tryz.func22, Tryz.ntmps22
  go_wp2_with fail
  go_loopg [3, 8] n (fun g sm i wr => ∃ k : Nat, k + g = n ∧ i = .int .i64 k ∧ sm = .int .i64 (sumW L k) ∧ wr = w)
  case atStart => exact ⟨0, by omega, rfl, rfl, rfl⟩
  case round =>
    obtain ⟨k, hk, rfl, rfl, rfl⟩ := hrel
    by_cases hlt : k < n
    · obtain ⟨b, o, rfl, hat⟩ := P3.out.resolve_left (by omega)
      obtain ⟨u, c0, hr⟩ := hat k hlt
      obtain ⟨ao2, cp2, rfl, -⟩ := hr
      have hS : Hid (sumW L (k + 1) = IntKind.i64.wrap (sumW L k + ((L k).length : Int))) := rfl
      obtain ⟨y, hy⟩ : ∃ y, sumW L (k + 1) = y := ⟨_, rfl⟩
      have HY : Hid (sumW L (k + 1) = y) := hy
      rw [hy] at hS
      have hS' : IntKind.i64.wrap (sumW L k + ((L k).length : Int)) = y := hS.out.symm
      clear hat hy
      go_wp2_with fail
      go_roundg (n - (k + 1))
      case measure => omega
      case rel => exact ⟨k + 1, by omega, by go_num, by rw [HY.out], rfl⟩
    · obtain rfl : k = n := by omega
      by_cases h60 : 60 < k
      · have d1 : decide ((60 : Int) < (k : Int)) = true := by simp; omega
        have e : greatB L k = true := by unfold greatB; rw [decide_eq_true h60]; rfl
        go_wp2_with fail
        go_ret
        rw [e]
        exact ⟨rfl, rfl⟩
      · have d1 : decide ((60 : Int) < (k : Int)) = false := by simp; omega
        have e : greatB L k = decide (20000 < sumW L k) := by unfold greatB; rw [decide_eq_false h60]; rfl
        go_wp2_with fail
        go_ret
        rw [e]
        exact ⟨rfl, rfl⟩
end Go.Proofs.YtokegpajjicehaaGreat

namespace Go.Proofs.YtokegpajjicehaaGreat
open Go.RowKit
set_option linter.unusedVariables false
set_option maxRecDepth 20000

/-- Bytes that were taken, as they came. -/
def Took (w : World) (T : List (Value × List Int)) (s : Sto) : Prop := ∀ p ∈ T, Rd w p.1 p.2 ∧ Bytes p.2 ∧ p.2.length ≤ 20000 ∧ rgE p.2 = 0 ∧ Gone s.M s.L (rgG p.2).t
theorem Took.nil (w : World) (s : Sto) : Took w [] s := fun p hp => by cases hp
theorem Took.old {w : World} {T : List (Value × List Int)} {s : Sto} {l : List Int} (h : Took w T s) (hr : RiseT s.L) (hr' : RiseT (accS s l).L) (hl : s.L.length ≤ s.M) : Took w T (accS s l) := fun p hp => by
  obtain ⟨a, b, c, d, e⟩ := h p hp
  exact ⟨a, b, c, d, tk_old (l := l) hr hr' hl e⟩
theorem Took.new {w : World} {T : List (Value × List Int)} {s : Sto} {l : List Int} {u : Value} (h : Took w T s) (hr : RiseT s.L) (hr' : RiseT (accS s l).L) (hl : s.L.length ≤ s.M) (h0 : tkE s l = 0) (hu : Rd w u l) (hb : Bytes l) (hlen : l.length ≤ 20000) : Took w (T ++ [(u, l)]) (accS s l) := fun p hp => by
  rcases List.mem_append.1 hp with hp | hp
  · exact h.old hr hr' hl p hp
  · rw [List.mem_singleton.1 hp]
    obtain ⟨a, b⟩ := tk_new (l := l) hr hr' hl h0
    exact ⟨hu, hb, hlen, a, b⟩
end Go.Proofs.YtokegpajjicehaaGreat
