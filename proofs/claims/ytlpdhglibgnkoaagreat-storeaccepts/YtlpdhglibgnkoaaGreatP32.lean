/-
  Texts St11, St12, Dl23 in one.
-/
import Derived.Test.YtlpdhglibgnkoaaGreatP31
namespace Go.Proofs.YtlpdhglibgnkoaaGreat
open Go.RowKit
set_option linter.unusedVariables false
set_option maxRecDepth 20000

theorem Own.chs {B C S R : Nat} {v v' u : Value} {l : List Int} {w w' : World} (hu : Own w C u l) (h : Chs B S R v v' w w') (ha : ∀ g, u.ownBlock = some g → g ≠ S ∧ g ≠ R ∧ some g ≠ v.ownBlock) : Own w' C u l ∧ ∀ g, u.ownBlock = some g → g ≠ S ∧ g ≠ R ∧ some g ≠ v'.ownBlock := by
  refine ⟨⟨hu.1, ?_⟩, fun g hg => ?_⟩
  · rcases hu.2 with hn | ⟨g, cap, cur, hv', hB, hg, rest⟩
    · exact Or.inl hn
    · have hgl : g < w.heap.size := (Array.getElem?_eq_some_iff.1 hg).1
      subst hv'
      obtain ⟨a1, a2, a3⟩ := ha g rfl
      exact Or.inr ⟨g, cap, cur, rfl, hB, (h.block g hgl a1 a2 a3).trans hg, rest⟩
  · obtain ⟨a1, a2, a3⟩ := ha g hg
    exact ⟨a1, a2, h.off (hu.lt g hg).2 a3⟩
/-- A store's row lies in a block. -/
theorem StoV.low {w : World} {B S R : Nat} {v : Value} {rs : Rs} {s : Sto} (h : StoV w B S R v rs s) : S < w.heap.size ∧ R < w.heap.size ∧ (∀ g, v.ownBlock = some g → g < w.heap.size) ∧ s.L.length ≤ 64 ∧ B ≤ w.heap.size :=
  ⟨h.blk.lt, h.rng.blk.lt, fun g hg => (h.rng.own.lt g hg).2, by have h1 := h.rng.ok.len; have h2 := h.rng.ok.most; have h3 := h.len; omega, Nat.le_trans h.le (Nat.le_of_lt h.blk.lt)⟩
/-- What is new is not the store's. -/
theorem StoV.apart {w : World} {B S R : Nat} {v : Value} {rs : Rs} {s : Sto} (h : StoV w B S R v rs s) {g : Nat} (hg : w.heap.size ≤ g) : g ≠ S ∧ g ≠ R ∧ some g ≠ v.ownBlock := by
  obtain ⟨h1, h2, h3, _, _⟩ := h.low
  exact ⟨by omega, by omega, fun e => by have := h3 g e.symm; omega⟩
theorem by_any (w : World) (g : Gm) (ok : g.ok) (v : Value) (n : Nat) (A : Nat → Rc) (hA : ∀ i, i < n → (A i).ok) (hv : RdR w v n A) :
    Calls Tryz.prog 18 #[gmV g v] w fun e w' => ∃ u, e = .returned u ∧ Own w' w.heap.size u (wrtB g A n) ∧ Below w.heap.size w w' := by
  have HB : Hid (∀ w', Below w.heap.size w w' → Calls Tryz.prog 25 #[gmV g v] w' fun e w'' => ∃ u, e = .returned (.tuple #[u, .int .i64 (wrtE g A n)]) ∧ Own w'' w'.heap.size u (wrtB g A n) ∧ Below w'.heap.size w' w'') := fun w' h => gm_write w' g ok v n A hA (hv.below h)
  obtain ⟨E, hE⟩ : ∃ E, wrtE g A n = E := ⟨_, rfl⟩
  rw [hE] at HB
  clear hE hA ok
  obtain ⟨ao, cap, rfl, hc, hm, _⟩ := hv
  obtain ⟨t, m, b⟩ := g
  go_enter Tryz.func18, Tryz.ntmps18
  go_wp2_with fail
  generalize hW : w.alloc (.cells #[.int .i64 t, .int .i64 m, .int .i64 b, .slice ao n cap] 61) = W
  obtain ⟨A0, b0, _⟩ := boxed hW
  clear hW
  refine (HB.out _ b0).mono ?_; rintro e w1 ⟨u1, rfl, o1, g1⟩
  have HH : Hid (Own w1 w.heap.size u1 (wrtB ⟨t, m, b⟩ A n) ∧ Below w.heap.size w w1) := ⟨o1.mono b0.size, bup b0 (Nat.le_refl _) g1⟩
  clear o1 g1
  go_wp2_with fail
  go_ret
  exact ⟨_, rfl, HH.out.1, HH.out.2⟩

/-! the example's numbers -/
abbrev noA : Nat → Rc := fun _ => noRec
def xB (g : Gm) : List Int := wrtB g noA 0
abbrev xg1 : Gm := ⟨1, 10, -1⟩
abbrev xg2 : Gm := ⟨3, 30, 1⟩
abbrev xg3 : Gm := ⟨2, 20, 1⟩
theorem x_ok1 : xg1.ok := ⟨by unfold S64; simp only; omega, by unfold S64; simp only; omega, by unfold S64; simp only; omega⟩
theorem x_ok2 : xg2.ok := ⟨by unfold S64; simp only; omega, by unfold S64; simp only; omega, by unfold S64; simp only; omega⟩
theorem x_ok3 : xg3.ok := ⟨by unfold S64; simp only; omega, by unfold S64; simp only; omega, by unfold S64; simp only; omega⟩
theorem x_w1 : wrtE xg1 noA 0 = 0 := by kernel_rfl
theorem x_w2 : wrtE xg2 noA 0 = 0 := by kernel_rfl
theorem x_w3 : wrtE xg3 noA 0 = 0 := by kernel_rfl
theorem x_rg {g : Gm} (h : wrtE g noA 0 = 0) : rgE (xB g) = 0 ∧ rgG (xB g) = g ∧ rgL (xB g) = [] ∧ Bytes (xB g) ∧ (xB g).length ≤ 140737488355328 := by
  obtain ⟨h3, h4, h5, h6, h7, h8⟩ := back_gram (g := g) (A := noA) (n := 0) (fun i hi => absurd hi (by omega)) h
  have h9 := rgE_zero h3
  have hb : Bytes (wrtB g noA 0) := by rw [h7]; exact sealed_ok (gmB_ok (fun i hi => absurd hi (by omega)) (wrt_ok h).1).1
  exact ⟨h3, h4, h5, hb, by have := h9.1; unfold xB; omega⟩
/-- What comes of bytes that are read. -/
theorem acc_is {s : Sto} {l : List Int} {g : Gm} (h : rgE l = 0 ∧ rgG l = g ∧ rgL l = [] ∧ Bytes l ∧ l.length ≤ 140737488355328) :
    tkE s l = stpE s.M s.L g [] ∧ tkT s l = (if stpE s.M s.L g [] = 0 then g.t else 0) ∧ accS s l = ⟨s.M, if stpE s.M s.L g [] = 0 then keepS s.M s.L (tkX s.L g []) else s.L, incN s.N (stpE s.M s.L g [])⟩ := by
  obtain ⟨h1, h2, h3, _, _⟩ := h
  have e : tkE s l = stpE s.M s.L g [] := by unfold tkE; rw [if_pos h1, h2, h3]
  refine ⟨e, by unfold tkT; rw [e, h2], ?_⟩
  unfold accS tkL
  rw [e, h2, h3]
def xs1 : Sto := ⟨4, [⟨1, 10, []⟩], [1, 0, 0, 0, 0, 0, 0, 0, 0, 0, 0, 0, 0, 0, 0, 0, 0, 0]⟩
def xs2 : Sto := ⟨4, [⟨1, 10, []⟩, ⟨3, 30, []⟩], [2, 0, 0, 0, 0, 0, 0, 0, 0, 0, 0, 0, 0, 0, 0, 0, 0, 0]⟩
def xs3 : Sto := ⟨4, [⟨1, 10, []⟩, ⟨2, 20, []⟩, ⟨3, 30, []⟩], [3, 0, 0, 0, 0, 0, 0, 0, 0, 0, 0, 0, 0, 0, 0, 0, 0, 0]⟩
def xs4 : Sto := ⟨4, [⟨1, 10, []⟩, ⟨2, 20, []⟩, ⟨3, 30, []⟩], [3, 0, 0, 0, 0, 0, 0, 0, 0, 0, 0, 0, 1, 0, 0, 0, 0, 0]⟩
theorem x_a1 : tkE (emptyS 4) (xB xg1) = 0 ∧ tkT (emptyS 4) (xB xg1) = 1 ∧ accS (emptyS 4) (xB xg1) = xs1 := by
  obtain ⟨h1, h2, h3⟩ := acc_is (s := emptyS 4) (x_rg x_w1)
  rw [h1, h2, h3]; exact ⟨by kernel_rfl, by kernel_rfl, by kernel_rfl⟩
theorem x_a2 : tkE xs1 (xB xg2) = 0 ∧ tkT xs1 (xB xg2) = 3 ∧ accS xs1 (xB xg2) = xs2 := by
  obtain ⟨h1, h2, h3⟩ := acc_is (s := xs1) (x_rg x_w2)
  rw [h1, h2, h3]; exact ⟨by kernel_rfl, by kernel_rfl, by kernel_rfl⟩
theorem x_a3 : tkE xs2 (xB xg3) = 0 ∧ tkT xs2 (xB xg3) = 2 ∧ accS xs2 (xB xg3) = xs3 := by
  obtain ⟨h1, h2, h3⟩ := acc_is (s := xs2) (x_rg x_w3)
  rw [h1, h2, h3]; exact ⟨by kernel_rfl, by kernel_rfl, by kernel_rfl⟩
theorem x_a4 : tkE xs3 (xB xg2) = 12 ∧ tkT xs3 (xB xg2) = 0 ∧ accS xs3 (xB xg2) = xs4 := by
  obtain ⟨h1, h2, h3⟩ := acc_is (s := xs3) (x_rg x_w2)
  rw [h1, h2, h3]; exact ⟨by kernel_rfl, by kernel_rfl, by kernel_rfl⟩
/-- A store, rows of bytes, and a row of these. -/
structure AlV (w0 w : World) (H LB : Nat) (us : List (Value × List Int)) (v : Value) (rs : Rs) (s : Sto) : Prop where
  sto : StoV w H (H + 1) H v rs s
  blk : Blk w LB (us.map (·.1))
  off : LB ≠ H + 1 ∧ LB ≠ H ∧ some LB ≠ v.ownBlock
  rows : ∀ p ∈ us, Own w H p.1 p.2 ∧ ∀ g, p.1.ownBlock = some g → g ≠ H + 1 ∧ g ≠ H ∧ some g ≠ v.ownBlock
  bel : Below H w0 w
theorem AlV.below {w0 w w' : World} {H LB : Nat} {us : List (Value × List Int)} {v : Value} {rs : Rs} {s : Sto} (h : AlV w0 w H LB us v rs s) (hb : Below w.heap.size w w') : AlV w0 w' H LB us v rs s :=
  ⟨h.sto.below hb, h.blk.below hb h.blk.lt, h.off, fun p hp => ⟨(h.rows p hp).1.below hb, (h.rows p hp).2⟩, h.bel.trans (hb.mono (by have := h.sto.low.2.1; omega))⟩
theorem AlV.acc {w0 w : World} {H LB : Nat} {us : List (Value × List Int)} {v : Value} {rs : Rs} {s : Sto} (h : AlV w0 w H LB us v rs s) (u : Value) (l : List Int) (hp : (u, l) ∈ us) (hb : Bytes l) (hl : l.length ≤ 140737488355328) :
    Calls Tryz.prog 9 #[.pointer (some ⟨H + 1, 0, none⟩), u] w fun e w' => e = .returned (.tuple #[.int .i64 (tkT s l), .int .i64 (tkE s l)]) ∧ ∃ v' rs', AlV w0 w' H LB us v' rs' (accS s l) := by
  refine (st_accept w H (H + 1) H v rs s h.sto h.sto.low.2.2.2.1 u l hb hl (h.rows _ hp).1.rd).mono ?_
  rintro e w' ⟨rfl, v', rs', S', C'⟩
  refine ⟨rfl, v', rs', S', h.blk.chs C' h.off.1 h.off.2.1 h.off.2.2, ⟨h.off.1, h.off.2.1, C'.off h.blk.lt h.off.2.2⟩, fun p hp => (h.rows p hp).1.chs C' (h.rows p hp).2, h.bel.trans C'.below⟩
theorem Own.own_ge {w : World} {B : Nat} {u : Value} {l : List Int} (h : Own w B u l) : ∀ g, u.ownBlock = some g → B ≤ g := fun g hg => (h.lt g hg).1
set_option maxHeartbeats 8000000 in
theorem st_alive (w : World) : Calls Tryz.prog 6 #[] w fun e w' => e = .returned (.bool true) ∧ Below w.heap.size w w' := by
  go_enter Tryz.func6, Tryz.ntmps6
  go_wp2_with fail
  refine (st_new w 4 (by omega) (by omega)).mono ?_; rintro e w1 ⟨rfl, S1, b1⟩
  obtain ⟨H, hH⟩ : ∃ H, w.heap.size = H := ⟨_, rfl⟩
  have HH : Hid (w.heap.size = H) := hH
  rw [hH] at S1 b1
  rw [hH]
  have SS1 : Hid (StoV w1 H (H + 1) H (.slice none 0 0) (emptyR 4) (emptyS 4)) := S1
  have B1 : Hid (Below H w w1) := b1
  clear S1 b1 hH
  go_wp2_with fail
  refine (by_any w1 xg1 x_ok1 (.slice none 0 0) 0 noA (fun i hi => absurd hi (by omega)) (RdR.none _)).mono ?_; rintro e w2 ⟨u1, rfl, o1, b2⟩
  have hw1 : H + 1 < w1.heap.size := SS1.out.blk.lt
  have hw2 := b2.size
  have SS2 : Hid (StoV w2 H (H + 1) H (.slice none 0 0) (emptyR 4) (emptyS 4)) := SS1.out.below b2
  have B2 : Hid (Below H w w2) := bup B1.out (Nat.le_of_eq HH.out.symm) b2
  have O1 : Hid (Own w2 (H + 1 + 1) u1 (xB xg1)) := Own.mono o1 (by omega)
  clear SS1 B1 o1 b2
  have hw2' : H + 1 < w2.heap.size := by omega
  clear hw1 hw2
  go_wp2_with fail
  refine (by_any w2 xg2 x_ok2 (.slice none 0 0) 0 noA (fun i hi => absurd hi (by omega)) (RdR.none _)).mono ?_; rintro e w3 ⟨u2, rfl, o2, b3⟩
  have hw3 := b3.size
  have SS3 : Hid (StoV w3 H (H + 1) H (.slice none 0 0) (emptyR 4) (emptyS 4)) := SS2.out.below b3
  have B3 : Hid (Below H w w3) := bup B2.out (Nat.le_of_eq HH.out.symm) b3
  have O12 : Hid (Own w3 (H + 1 + 1) u1 (xB xg1)) := O1.out.below b3
  have O22 : Hid (Own w3 (H + 1 + 1) u2 (xB xg2)) := Own.mono o2 (by omega)
  clear SS2 B2 O1 o2 b3
  have hw3' : H + 1 < w3.heap.size := by omega
  clear hw2' hw3
  go_wp2_with fail
  refine (by_any w3 xg3 x_ok3 (.slice none 0 0) 0 noA (fun i hi => absurd hi (by omega)) (RdR.none _)).mono ?_; rintro e w4 ⟨u3, rfl, o3, b4⟩
  have hw4 := b4.size
  have SS4 : Hid (StoV w4 H (H + 1) H (.slice none 0 0) (emptyR 4) (emptyS 4)) := SS3.out.below b4
  have B4 : Hid (Below H w w4) := bup B3.out (Nat.le_of_eq HH.out.symm) b4
  have O13 : Hid (Own w4 (H + 1 + 1) u1 (xB xg1)) := O12.out.below b4
  have O23 : Hid (Own w4 (H + 1 + 1) u2 (xB xg2)) := O22.out.below b4
  have O33 : Hid (Own w4 (H + 1 + 1) u3 (xB xg3)) := Own.mono o3 (by omega)
  clear SS3 B3 O12 O22 o3 b4
  have hw4' : H + 1 < w4.heap.size := by omega
  clear hw3' hw4
  obtain ⟨a1, k1, e1, -⟩ := O13.out.rd
  obtain ⟨a2, k2, e2, -⟩ := O23.out.rd
  obtain ⟨a3, k3, e3, -⟩ := O33.out.rd
  obtain ⟨n1, hn1⟩ : ∃ x, (xB xg1).length = x := ⟨_, rfl⟩
  obtain ⟨n2, hn2⟩ : ∃ x, (xB xg2).length = x := ⟨_, rfl⟩
  obtain ⟨n3, hn3⟩ : ∃ x, (xB xg3).length = x := ⟨_, rfl⟩
  rw [hn1] at e1
  rw [hn2] at e2
  rw [hn3] at e3
  subst e1 e2 e3
  clear hn1 hn2 hn3
  go_upto_region 5 with fail
  generalize hW : w4.alloc (.cells #[.slice a1 n1 k1, .slice a2 n2 k2, .slice a3 n3 k3] 32) = W5
  obtain ⟨L5, b5, -⟩ := boxed hW
  obtain ⟨LB, hLB⟩ : ∃ x, w4.heap.size = x := ⟨_, rfl⟩
  have AL0 : Hid (AlV w W5 H LB [(.slice a1 n1 k1, xB xg1), (.slice a2 n2 k2, xB xg2), (.slice a3 n3 k3, xB xg3)] (.slice none 0 0) (emptyR 4) (emptyS 4)) := by
    rw [hLB] at L5 hw4'
    refine ⟨SS4.out.below b5, L5, ⟨by omega, by omega, by simp [Value.ownBlock]⟩, fun p hp => ?_, bup B4.out (Nat.le_of_eq HH.out.symm) b5⟩
    have one : ∀ u l, Own w4 (H + 1 + 1) u l → Own W5 H u l ∧ ∀ g, u.ownBlock = some g → g ≠ H + 1 ∧ g ≠ H ∧ some g ≠ (Value.slice none 0 0).ownBlock := fun u l o => ⟨(o.below b5).mono (by omega), fun g hg => by
      have := o.own_ge g hg
      exact ⟨by omega, by omega, by simp [Value.ownBlock]⟩⟩
    simp only [List.mem_cons, List.not_mem_nil, or_false] at hp
    rcases hp with rfl | rfl | rfl
    · exact one _ _ O13.out
    · exact one _ _ O23.out
    · exact one _ _ O33.out
  rw [hLB]
  obtain ⟨c1, c2, c3, c4⟩ : (Bytes (xB xg1) ∧ (xB xg1).length ≤ 140737488355328) ∧ (Bytes (xB xg2) ∧ (xB xg2).length ≤ 140737488355328) ∧ (Bytes (xB xg3) ∧ (xB xg3).length ≤ 140737488355328) ∧ True := ⟨(x_rg x_w1).2.2.2, (x_rg x_w2).2.2.2, (x_rg x_w3).2.2.2, trivial⟩
  have HC1 : Hid _ := c1
  have HC2 : Hid _ := c2
  have HC3 : Hid _ := c3
  clear hW hLB L5 b5 SS4 B4 O13 O23 O33 hw4' c1 c2 c3 c4
  -- the first
  have l0 := AL0.out.blk.cell 0 _ rfl
  go_wp2_with fail
  refine wp_loop_rounds 4 ?_
  rw [rounds_succ]
  go_wp2_with fail
  refine (AL0.out.acc (.slice a1 n1 k1) (xB xg1) (by simp) HC1.out.1 HC1.out.2).mono ?_; rintro e w6 ⟨rfl, v6, rs6, A6⟩
  rw [x_a1.1, x_a1.2.1]
  have AL1 : Hid (AlV w w6 H LB [(.slice a1 n1 k1, xB xg1), (.slice a2 n2 k2, xB xg2), (.slice a3 n3 k3, xB xg3)] v6 rs6 xs1) := by
    have := A6
    rw [x_a1.2.2] at this
    exact this
  clear A6 AL0 l0
  go_wp2_with fail
  obtain ⟨V1, hV1⟩ : ∃ V, w6.alloc (.cells #[.int .i64 1, .int .i64 3, .int .i64 2] 2) = V := ⟨_, rfl⟩
  have AM1 : Hid (AlV w V1 H LB [(.slice a1 n1 k1, xB xg1), (.slice a2 n2 k2, xB xg2), (.slice a3 n3 k3, xB xg3)] v6 rs6 xs1) := AL1.out.below (by rw [← hV1]; exact (Below.refl _ _).alloc (Nat.le_refl _) _)
  rw [hV1]
  clear hV1 AL1
  have l1 := AM1.out.blk.cell 1 _ rfl
  rw [rounds_succ]
  go_wp2_with fail
  refine (AM1.out.acc (.slice a2 n2 k2) (xB xg2) (by simp) HC2.out.1 HC2.out.2).mono ?_; rintro e w7 ⟨rfl, v7, rs7, A7⟩
  rw [x_a2.1, x_a2.2.1]
  have AL2 : Hid (AlV w w7 H LB [(.slice a1 n1 k1, xB xg1), (.slice a2 n2 k2, xB xg2), (.slice a3 n3 k3, xB xg3)] v7 rs7 xs2) := by
    have := A7
    rw [x_a2.2.2] at this
    exact this
  clear A7 AM1 l1
  go_wp2_with fail
  obtain ⟨V2, hV2⟩ : ∃ V, w7.alloc (.cells #[.int .i64 1, .int .i64 3, .int .i64 2] 2) = V := ⟨_, rfl⟩
  have AM2 : Hid (AlV w V2 H LB [(.slice a1 n1 k1, xB xg1), (.slice a2 n2 k2, xB xg2), (.slice a3 n3 k3, xB xg3)] v7 rs7 xs2) := AL2.out.below (by rw [← hV2]; exact (Below.refl _ _).alloc (Nat.le_refl _) _)
  rw [hV2]
  clear hV2 AL2
  have l2 := AM2.out.blk.cell 2 _ rfl
  rw [rounds_succ]
  go_wp2_with fail
  refine (AM2.out.acc (.slice a3 n3 k3) (xB xg3) (by simp) HC3.out.1 HC3.out.2).mono ?_; rintro e w8 ⟨rfl, v8, rs8, A8⟩
  rw [x_a3.1, x_a3.2.1]
  have AL3 : Hid (AlV w w8 H LB [(.slice a1 n1 k1, xB xg1), (.slice a2 n2 k2, xB xg2), (.slice a3 n3 k3, xB xg3)] v8 rs8 xs3) := by
    have := A8
    rw [x_a3.2.2] at this
    exact this
  clear A8 AM2 l2
  go_wp2_with fail
  obtain ⟨V3, hV3⟩ : ∃ V, w8.alloc (.cells #[.int .i64 1, .int .i64 3, .int .i64 2] 2) = V := ⟨_, rfl⟩
  have AM3 : Hid (AlV w V3 H LB [(.slice a1 n1 k1, xB xg1), (.slice a2 n2 k2, xB xg2), (.slice a3 n3 k3, xB xg3)] v8 rs8 xs3) := AL3.out.below (by rw [← hV3]; exact (Below.refl _ _).alloc (Nat.le_refl _) _)
  rw [hV3]
  clear hV3 AL3
  have l1 := AM3.out.blk.cell 1 _ rfl
  rw [rounds_succ]
  go_wp2_with fail
  refine (AM3.out.acc (.slice a2 n2 k2) (xB xg2) (by simp) HC2.out.1 HC2.out.2).mono ?_; rintro e w9 ⟨rfl, v9, rs9, A9⟩
  rw [x_a4.1, x_a4.2.1]
  have AL4 : Hid (AlV w w9 H LB [(.slice a1 n1 k1, xB xg1), (.slice a2 n2 k2, xB xg2), (.slice a3 n3 k3, xB xg3)] v9 rs9 xs4) := by
    have := A9
    rw [x_a4.2.2] at this
    exact this
  clear A9 AM3 l1
  go_wp2_with fail
  refine (st_at w9 H (H + 1) H v9 rs9 xs4 AL4.out.sto 1 (by decide) (by decide)).mono ?_; rintro e w10 ⟨u, rfl, o10, b10⟩
  have AL5 : Hid (AlV w w10 H LB [(.slice a1 n1 k1, xB xg1), (.slice a2 n2 k2, xB xg2), (.slice a3 n3 k3, xB xg3)] v9 rs9 xs4) := AL4.out.below b10
  obtain ⟨au, ku, e10⟩ := o10.form
  obtain ⟨nu, hnu⟩ : ∃ x, (preE (atE (atS xs4.L 1).E) (atS xs4.L 1).E.length).length = x := ⟨_, rfl⟩
  rw [hnu] at e10
  subst e10
  clear AL4 b10 o10 hnu
  have et : (atS xs4.L 1).t = 2 := rfl
  have em : (atS xs4.L 1).m = 20 := rfl
  rw [et, em]
  clear et em
  go_upto_region 14 with fail
  generalize hV : w10.alloc (.cells #[.int .i64 2, .int .i64 20, .slice au nu ku] 45) = W11
  obtain ⟨X11, bn, -⟩ := boxed hV
  have AL6 : Hid (AlV w W11 H LB [(.slice a1 n1 k1, xB xg1), (.slice a2 n2 k2, xB xg2), (.slice a3 n3 k3, xB xg3)] v9 rs9 xs4) := AL5.out.below bn
  obtain ⟨PX, hPX⟩ : ∃ x, w10.heap.size = x := ⟨_, rfl⟩
  rw [hPX] at X11
  rw [hPX]
  clear hV hPX bn AL5
  have x0 := X11.cell 0 _ rfl
  have lx := X11.lt
  go_wp2_with fail
  refine (st_len W11 H (H + 1) H v9 rs9 xs4 AL6.out.sto).mono ?_; rintro e w12 ⟨rfl, rfl⟩
  have e3 : ((xs4.L.length : Nat) : Int) = 3 := rfl
  rw [e3]
  clear e3
  go_wp2_with fail
  refine (st_taken w12 H (H + 1) H v9 rs9 xs4 AL6.out.sto).mono ?_; rintro e w13 ⟨rfl, rfl⟩
  have e3 : xs4.N.getD 0 0 = 3 := rfl
  rw [e3]
  clear e3
  go_wp2_with fail
  refine (st_refused w13 H (H + 1) H v9 rs9 xs4 AL6.out.sto 12 (by omega) (by omega)).mono ?_; rintro e w14 ⟨rfl, rfl⟩
  have e3 : xs4.N.getD 12 0 = 1 := rfl
  rw [e3]
  clear e3
  go_wp2_with fail
  go_ret
  exact ⟨rfl, by rw [HH.out]; exact AL6.out.bel⟩
end Go.Proofs.YtlpdhglibgnkoaaGreat

namespace Go.Proofs.YtlpdhglibgnkoaaGreat
open Go.RowKit
set_option linter.unusedVariables false
set_option maxRecDepth 20000
end Go.Proofs.YtlpdhglibgnkoaaGreat

namespace Go.Proofs.YtlpdhglibgnkoaaGreat
open Go.RowKit
set_option linter.unusedVariables false
set_option maxRecDepth 20000

theorem lastE_pre (A : Nat → En) (j : Nat) : lastE (-1) (preE A (j + 1)) = (A j).i := by rw [preE_succ, lastE_snoc]
set_option maxHeartbeats 2000000 in
theorem dsn_check (w : World) (t m : Int) (v : Value) (n : Nat) (A : Nat → En) (hv : RdE w v n A) :
    Calls Tryz.prog 63 #[snV t m v] w fun e w' => e = .returned (.int .i64 (snE t m (preE A n))) ∧ Below w.heap.size w w' := by
  have HR : Hid (RdE w v n A) := hv
  obtain ⟨E, hE⟩ : ∃ E, snE t m (preE A n) = E := ⟨_, rfl⟩
  have HT : Hid (t < 0 ∨ 4294967295 < t ∨ m < -2305843009213693952 ∨ 2305843009213693952 < m → E = 3) := fun h => by
    rw [← hE]; unfold snE; rw [if_pos]
    rcases h with h | h | h | h
    · exact Or.inl h
    · exact Or.inr (Or.inl h)
    · refine Or.inr (Or.inr ?_); unfold timB; simp; omega
    · refine Or.inr (Or.inr ?_); unfold timB; simp; omega
  have HN : ¬ (t < 0 ∨ 4294967295 < t ∨ m < -2305843009213693952 ∨ 2305843009213693952 < m) → E = if 64 < n then 4 else idsE (-1) (preE A n) := fun h => by
    rw [← hE]; unfold snE; rw [if_neg, preE_len]
    intro h'
    rcases h' with h' | h' | h'
    · omega
    · omega
    · unfold timB at h'; simp at h'; omega
  rw [hE]
  clear hE
  obtain ⟨ao, cap, rfl, hc, hm, _⟩ := hv
  have B0 : ∀ c T, Below w.heap.size w (w.alloc (.cells c T)) := fun c T => (Below.refl _ _).alloc (Nat.le_refl _) _
  by_cases h1 : t < 0
  · have e := HT.out (Or.inl h1)
    subst e
    clear HT HN HR
    go_enter Tryz.func63, Tryz.ntmps63
    go_wp2_with fail
    go_ret
    exact ⟨rfl, B0 _ _⟩
  by_cases h2 : 4294967295 < t
  · have e := HT.out (Or.inr (Or.inl h2))
    subst e
    clear HT HN HR
    go_enter Tryz.func63, Tryz.ntmps63
    go_wp2_with fail
    go_ret
    exact ⟨rfl, B0 _ _⟩
  by_cases h3 : m < -2305843009213693952
  · have e := HT.out (Or.inr (Or.inr (Or.inl h3)))
    subst e
    clear HT HN HR
    go_enter Tryz.func63, Tryz.ntmps63
    go_wp2_with fail
    go_ret
    exact ⟨rfl, B0 _ _⟩
  by_cases h4 : 2305843009213693952 < m
  · have e := HT.out (Or.inr (Or.inr (Or.inr h4)))
    subst e
    clear HT HN HR
    go_enter Tryz.func63, Tryz.ntmps63
    go_wp2_with fail
    go_ret
    exact ⟨rfl, B0 _ _⟩
  have e := HN (by omega)
  clear HT HN
  by_cases h5 : 64 < n
  · rw [if_pos h5] at e
    subst e
    clear HR
    go_enter Tryz.func63, Tryz.ntmps63
    go_wp2_with fail
    go_ret
    exact ⟨rfl, B0 _ _⟩
  rw [if_neg h5] at e
  obtain ⟨s1, s2, s3, s4⟩ := ids_steps A n E e.symm
  have S1 : Hid (∀ k, k < n → rise (-1) (preE A k) → ((A k).i < 0 ∨ 65535 < (A k).i) → E = 3) := s1
  have S2 : Hid (∀ k, k < n → rise (-1) (preE A k) → ¬ ((A k).i < 0 ∨ 65535 < (A k).i) → (A k).i ≤ lastE (-1) (preE A k) → E = 10) := s2
  have S3 : Hid (∀ k, k < n → rise (-1) (preE A k) → ¬ ((A k).i < 0 ∨ 65535 < (A k).i) → ¬ (A k).i ≤ lastE (-1) (preE A k) → rise (-1) (preE A (k + 1))) := fun k a b c d => (s3 k a b c d).1
  have S4 : Hid (rise (-1) (preE A n) → E = 0) := s4
  clear e s1 s2 s3 s4
  go_enter Tryz.func63, Tryz.ntmps63
  go_wp2_with fail
  generalize hW : w.alloc (.cells #[.int .i64 t, .int .i64 m, .slice ao n cap] 45) = W
  obtain ⟨A0, b0, _⟩ := boxed hW
  obtain ⟨H, hH⟩ : ∃ x, w.heap.size = x := ⟨_, rfl⟩
  have HH : Hid (w.heap.size = H) := hH
  have R0 : Hid (RdE W (.slice ao n cap) n A) := HR.out.below b0
  rw [hH] at A0 b0 ⊢
  clear hW HR B0 hH
  go_loopw [3] (fun i wr => ∃ k : Nat, k ≤ n ∧ i = .int .i64 k ∧ rise (-1) (preE A k) ∧ RdE wr (.slice ao n cap) n A ∧ Blk wr H [.int .i64 t, .int .i64 m, .slice ao n cap] ∧ Below H w wr) (fun i _ => n - (intOf i).toNat)
  case atStart => exact ⟨0, by omega, rfl, trivial, R0.out, A0, b0⟩
  case round =>
    clear A0 b0 R0
    obtain ⟨k, hk, rfl, q1, q3, q5, q4⟩ := hrel
    have Q3 : Hid (RdE wr (.slice ao n cap) n A) := q3
    have Q1 : Hid (rise (-1) (preE A k)) := q1
    have c0 := q5.cell 2 _ rfl
    have lH := q5.lt
    by_cases hlt : k < n
    · obtain ⟨g1, o1, e1, l1, c1⟩ := rdE_at q3 hlt
      have T1 := S1.out k hlt q1
      have T2 := S2.out k hlt q1
      have T3 := S3.out k hlt q1
      have LP : ∀ j, k = j + 1 → lastE (-1) (preE A k) = (A j).i := fun j h => by rw [h, lastE_pre]
      have L0 : k = 0 → lastE (-1) (preE A k) = -1 := fun h => by rw [h]; rfl
      have CP : ∀ j, k = j + 1 → wr.cell? ⟨g1, o1 + j * 9, none⟩ = some (.int .i64 (A j).i) := fun j h => by
        obtain ⟨g2, o2, e2, _, c2⟩ := rdE_at q3 (show j < n by omega)
        rw [e1] at e2; injection e2 with e2; injection e2 with e2 e3 _; subst e2 e3
        exact c2 0 _ rfl
      subst e1
      have x0 := c1 0 _ rfl
      simp only [Nat.add_zero] at x0
      obtain ⟨ls, hls⟩ : ∃ x, lastE (-1) (preE A k) = x := ⟨_, rfl⟩
      obtain ⟨r0, hr0⟩ : ∃ x, (A k).i = x := ⟨_, rfl⟩
      rw [hr0] at T1 T2 T3 x0
      rw [hls] at T2 T3 LP L0
      have U1 : Hid (r0 < 0 ∨ 65535 < r0 → E = 3) := T1
      have U2 : Hid (¬ (r0 < 0 ∨ 65535 < r0) → r0 ≤ ls → E = 10) := T2
      have U3 : Hid (¬ (r0 < 0 ∨ 65535 < r0) → ¬ r0 ≤ ls → rise (-1) (preE A (k + 1))) := fun a b => T3 a (by omega)
      have HLP : Hid (∀ j, k = j + 1 → ls = (A j).i) := LP
      have HL0 : Hid (k = 0 → ls = -1) := L0
      have HCP : Hid (∀ j, k = j + 1 → wr.cell? ⟨g1, o1 + j * 9, none⟩ = some (.int .i64 (A j).i)) := CP
      clear c1 q1 q3 hls hr0 T1 T2 T3 S1 S2 S3 S4 LP L0 CP
      by_cases g1' : r0 < 0
      · have e := U1.out (Or.inl g1')
        subst e
        clear U1 U2 U3 HLP HL0 HCP
        go_wp2_with fail
        go_ret
        exact ⟨rfl, by rw [HH.out]; exact q4⟩
      by_cases g2 : 65535 < r0
      · have e := U1.out (Or.inr g2)
        subst e
        clear U1 U2 U3 HLP HL0 HCP
        go_wp2_with fail
        go_ret
        exact ⟨rfl, by rw [HH.out]; exact q4⟩
      by_cases hk0 : k = 0
      · have E3 : Hid (rise (-1) (preE A (k + 1))) := U3.out (by omega) (by have := HL0.out hk0; omega)
        subst hk0
        simp only [Nat.zero_mul, Nat.add_zero] at x0
        clear U1 U2 U3 HLP HL0 HCP
        go_wp2_with fail
        go_quiet (fail)
        go_wp2_with fail
        go_roundw
        case rel => exact ⟨0 + 1, by omega, by go_num, E3.out, Q3.out, q5.drewN _, below_drewN q4 _⟩
        case measure => simp [intOf]; omega
      · obtain ⟨j, hj⟩ : ∃ j, k = j + 1 := ⟨k - 1, by omega⟩
        have y0 := HCP.out j hj
        have hw1 : IntKind.i64.wrap ((k : Int) - 1) = (j : Int) := by rw [IntKind.wrap_i64]; omega
        have hjn : j < n := by omega
        have d0 : decide ((0 : Int) < (k : Int)) = true := by simp; omega
        have hkp : 0 < k := by omega
        have hlp := HLP.out j hj
        rw [hlp] at U2 U3
        obtain ⟨p0, hp0⟩ : ∃ x, (A j).i = x := ⟨_, rfl⟩
        rw [hp0] at U2 U3 y0
        clear HLP HL0 HCP hlp hp0 hj
        by_cases g3 : r0 ≤ p0
        · have e := U2.out (by omega) g3
          subst e
          clear U1 U2 U3
          go_wp2_with fail
          go_quiet (fail)
          go_wp2_with fail
          go_ret
          exact ⟨rfl, by rw [HH.out]; exact below_drewN q4 _⟩
        have E3 : Hid (rise (-1) (preE A (k + 1))) := U3.out (by omega) g3
        clear U1 U2 U3
        go_wp2_with fail
        go_quiet (fail)
        go_wp2_with fail
        go_roundw
        case rel => exact ⟨k + 1, by omega, by go_num, E3.out, Q3.out, q5.drewN _, below_drewN q4 _⟩
        case measure => simp [intOf]; omega
    · obtain rfl : k = n := by omega
      have e := S4.out q1
      subst e
      clear S1 S2 S3 S4 q1 q3
      go_wp2_with fail
      go_ret
      exact ⟨rfl, by rw [HH.out]; exact q4⟩
end Go.Proofs.YtlpdhglibgnkoaaGreat
