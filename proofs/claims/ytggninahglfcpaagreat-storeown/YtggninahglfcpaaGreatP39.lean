/-
  Texts St11, St12, St13, St14 in one.
-/
import Derived.Test.YtggninahglfcpaaGreatP38
namespace Go.Proofs.YtggninahglfcpaaGreat
open Go.RowKit
set_option linter.unusedVariables false
set_option maxRecDepth 20000

theorem Own.chs {B C S R : Nat} {v v' u : Value} {l : List Int} {w w' : World} (hu : Own w C u l) (h : Chs B S R v v' w w') (ha : ∀ g, u.ownBlock = some g → g ≠ S ∧ g ≠ R ∧ some g ≠ v.ownBlock) : Own w' C u l ∧ ∀ g, u.ownBlock = some g → g ≠ S ∧ g ≠ R ∧ some g ≠ v'.ownBlock := by
  refine ⟨⟨hu.1, ?_⟩, fun g hg => ?_⟩
  · rcases hu.2 with hn | ⟨g, cap, cur, hv', hB, hg, rest⟩
    · exact Or.inl hn
    · have hgl : g < w.heap.size := (Array.getElem?_eq_some_iff.1 hg).1
      subst hv'
      obtain ⟨a1, a2, a3⟩ := ha g rfl
      exact Or.inr ⟨g, cap, cur, rfl, hB, (h.block g hgl a1 a2 a3).trans hg, rest⟩
  · obtain ⟨a1, a2, a3⟩ := ha g hg
    exact ⟨a1, a2, h.off (hu.lt g hg).2 a3⟩
/-- A store's row lies in a block. -/
theorem StoV.low {w : World} {B S R : Nat} {v : Value} {rs : Rs} {s : Sto} (h : StoV w B S R v rs s) : S < w.heap.size ∧ R < w.heap.size ∧ (∀ g, v.ownBlock = some g → g < w.heap.size) ∧ s.L.length ≤ 64 ∧ B ≤ w.heap.size :=
  ⟨h.blk.lt, h.rng.blk.lt, fun g hg => (h.rng.own.lt g hg).2, by have h1 := h.rng.ok.len; have h2 := h.rng.ok.most; have h3 := h.len; omega, Nat.le_trans h.le (Nat.le_of_lt h.blk.lt)⟩
/-- What is new is not the store's. -/
theorem StoV.apart {w : World} {B S R : Nat} {v : Value} {rs : Rs} {s : Sto} (h : StoV w B S R v rs s) {g : Nat} (hg : w.heap.size ≤ g) : g ≠ S ∧ g ≠ R ∧ some g ≠ v.ownBlock := by
  obtain ⟨h1, h2, h3, _, _⟩ := h.low
  exact ⟨by omega, by omega, fun e => by have := h3 g e.symm; omega⟩
theorem by_any (w : World) (g : Gm) (ok : g.ok) (v : Value) (n : Nat) (A : Nat → Rc) (hA : ∀ i, i < n → (A i).ok) (hv : RdR w v n A) :
    Calls Tryz.prog 30 #[gmV g v] w fun e w' => ∃ u, e = .returned u ∧ Own w' w.heap.size u (wrtB g A n) ∧ Below w.heap.size w w' := by
  have HB : Hid (∀ w', Below w.heap.size w w' → Calls Tryz.prog 26 #[gmV g v] w' fun e w'' => ∃ u, e = .returned (.tuple #[u, .int .i64 (wrtE g A n)]) ∧ Own w'' w'.heap.size u (wrtB g A n) ∧ Below w'.heap.size w' w'') := fun w' h => gm_write w' g ok v n A hA (hv.below h)
  obtain ⟨E, hE⟩ : ∃ E, wrtE g A n = E := ⟨_, rfl⟩
  rw [hE] at HB
  clear hE hA ok
  obtain ⟨ao, cap, rfl, hc, hm, _⟩ := hv
  obtain ⟨t, m, b⟩ := g
  go_enter Tryz.func30, Tryz.ntmps30
  go_wp2_with fail
  generalize hW : w.alloc (.cells #[.int .i64 t, .int .i64 m, .int .i64 b, .slice ao n cap] 57) = W
  obtain ⟨A0, b0, _⟩ := boxed hW
  clear hW
  refine (HB.out _ b0).mono ?_; rintro e w1 ⟨u1, rfl, o1, g1⟩
  have HH : Hid (Own w1 w.heap.size u1 (wrtB ⟨t, m, b⟩ A n) ∧ Below w.heap.size w w1) := ⟨o1.mono b0.size, bup b0 (Nat.le_refl _) g1⟩
  clear o1 g1
  go_wp2_with fail
  go_ret
  exact ⟨_, rfl, HH.out.1, HH.out.2⟩

/-! the example's numbers -/
abbrev noA : Nat → Rc := fun _ => noRec
def xB (g : Gm) : List Int := wrtB g noA 0
abbrev xg1 : Gm := ⟨1, 10, -1⟩
abbrev xg2 : Gm := ⟨3, 30, 1⟩
abbrev xg3 : Gm := ⟨2, 20, 1⟩
theorem x_ok1 : xg1.ok := ⟨by unfold S64; simp only; omega, by unfold S64; simp only; omega, by unfold S64; simp only; omega⟩
theorem x_ok2 : xg2.ok := ⟨by unfold S64; simp only; omega, by unfold S64; simp only; omega, by unfold S64; simp only; omega⟩
theorem x_ok3 : xg3.ok := ⟨by unfold S64; simp only; omega, by unfold S64; simp only; omega, by unfold S64; simp only; omega⟩
theorem x_w1 : wrtE xg1 noA 0 = 0 := by kernel_rfl
theorem x_w2 : wrtE xg2 noA 0 = 0 := by kernel_rfl
theorem x_w3 : wrtE xg3 noA 0 = 0 := by kernel_rfl
theorem x_rg {g : Gm} (h : wrtE g noA 0 = 0) : rgE (xB g) = 0 ∧ rgG (xB g) = g ∧ rgL (xB g) = [] ∧ Bytes (xB g) ∧ (xB g).length ≤ 140737488355328 := by
  obtain ⟨h3, h4, h5, h6, h7, h8⟩ := back_gram (g := g) (A := noA) (n := 0) (fun i hi => absurd hi (by omega)) h
  have h9 := rgE_zero h3
  have hb : Bytes (wrtB g noA 0) := by rw [h7]; exact sealed_ok (gmB_ok (fun i hi => absurd hi (by omega)) (wrt_ok h).1).1
  exact ⟨h3, h4, h5, hb, by have := h9.1; unfold xB; omega⟩
/-- What comes of bytes that are read. -/
theorem acc_is {s : Sto} {l : List Int} {g : Gm} (h : rgE l = 0 ∧ rgG l = g ∧ rgL l = [] ∧ Bytes l ∧ l.length ≤ 140737488355328) :
    tkE s l = stpE s.M s.L g [] ∧ tkT s l = (if stpE s.M s.L g [] = 0 then g.t else 0) ∧ accS s l = ⟨s.M, if stpE s.M s.L g [] = 0 then keepS s.M s.L (tkX s.L g []) else s.L, incN s.N (stpE s.M s.L g [])⟩ := by
  obtain ⟨h1, h2, h3, _, _⟩ := h
  have e : tkE s l = stpE s.M s.L g [] := by unfold tkE; rw [if_pos h1, h2, h3]
  refine ⟨e, by unfold tkT; rw [e, h2], ?_⟩
  unfold accS tkL
  rw [e, h2, h3]
def xs1 : Sto := ⟨4, [⟨1, 10, []⟩], [1, 0, 0, 0, 0, 0, 0, 0, 0, 0, 0, 0, 0, 0, 0, 0, 0, 0]⟩
def xs2 : Sto := ⟨4, [⟨1, 10, []⟩, ⟨3, 30, []⟩], [2, 0, 0, 0, 0, 0, 0, 0, 0, 0, 0, 0, 0, 0, 0, 0, 0, 0]⟩
def xs3 : Sto := ⟨4, [⟨1, 10, []⟩, ⟨2, 20, []⟩, ⟨3, 30, []⟩], [3, 0, 0, 0, 0, 0, 0, 0, 0, 0, 0, 0, 0, 0, 0, 0, 0, 0]⟩
def xs4 : Sto := ⟨4, [⟨1, 10, []⟩, ⟨2, 20, []⟩, ⟨3, 30, []⟩], [3, 0, 0, 0, 0, 0, 0, 0, 0, 0, 0, 0, 1, 0, 0, 0, 0, 0]⟩
theorem x_a1 : tkE (emptyS 4) (xB xg1) = 0 ∧ tkT (emptyS 4) (xB xg1) = 1 ∧ accS (emptyS 4) (xB xg1) = xs1 := by
  obtain ⟨h1, h2, h3⟩ := acc_is (s := emptyS 4) (x_rg x_w1)
  rw [h1, h2, h3]; exact ⟨by kernel_rfl, by kernel_rfl, by kernel_rfl⟩
theorem x_a2 : tkE xs1 (xB xg2) = 0 ∧ tkT xs1 (xB xg2) = 3 ∧ accS xs1 (xB xg2) = xs2 := by
  obtain ⟨h1, h2, h3⟩ := acc_is (s := xs1) (x_rg x_w2)
  rw [h1, h2, h3]; exact ⟨by kernel_rfl, by kernel_rfl, by kernel_rfl⟩
theorem x_a3 : tkE xs2 (xB xg3) = 0 ∧ tkT xs2 (xB xg3) = 2 ∧ accS xs2 (xB xg3) = xs3 := by
  obtain ⟨h1, h2, h3⟩ := acc_is (s := xs2) (x_rg x_w3)
  rw [h1, h2, h3]; exact ⟨by kernel_rfl, by kernel_rfl, by kernel_rfl⟩
theorem x_a4 : tkE xs3 (xB xg2) = 12 ∧ tkT xs3 (xB xg2) = 0 ∧ accS xs3 (xB xg2) = xs4 := by
  obtain ⟨h1, h2, h3⟩ := acc_is (s := xs3) (x_rg x_w2)
  rw [h1, h2, h3]; exact ⟨by kernel_rfl, by kernel_rfl, by kernel_rfl⟩
/-- A store, rows of bytes, and a row of these. -/
structure AlV (w0 w : World) (H LB : Nat) (us : List (Value × List Int)) (v : Value) (rs : Rs) (s : Sto) : Prop where
  sto : StoV w H (H + 1) H v rs s
  blk : Blk w LB (us.map (·.1))
  off : LB ≠ H + 1 ∧ LB ≠ H ∧ some LB ≠ v.ownBlock
  rows : ∀ p ∈ us, Own w H p.1 p.2 ∧ ∀ g, p.1.ownBlock = some g → g ≠ H + 1 ∧ g ≠ H ∧ some g ≠ v.ownBlock
  bel : Below H w0 w
theorem AlV.below {w0 w w' : World} {H LB : Nat} {us : List (Value × List Int)} {v : Value} {rs : Rs} {s : Sto} (h : AlV w0 w H LB us v rs s) (hb : Below w.heap.size w w') : AlV w0 w' H LB us v rs s :=
  ⟨h.sto.below hb, h.blk.below hb h.blk.lt, h.off, fun p hp => ⟨(h.rows p hp).1.below hb, (h.rows p hp).2⟩, h.bel.trans (hb.mono (by have := h.sto.low.2.1; omega))⟩
theorem AlV.acc {w0 w : World} {H LB : Nat} {us : List (Value × List Int)} {v : Value} {rs : Rs} {s : Sto} (h : AlV w0 w H LB us v rs s) (u : Value) (l : List Int) (hp : (u, l) ∈ us) (hb : Bytes l) (hl : l.length ≤ 140737488355328) :
    Calls Tryz.prog 15 #[.pointer (some ⟨H + 1, 0, none⟩), u] w fun e w' => e = .returned (.tuple #[.int .i64 (tkT s l), .int .i64 (tkE s l)]) ∧ ∃ v' rs', AlV w0 w' H LB us v' rs' (accS s l) := by
  refine (st_accept w H (H + 1) H v rs s h.sto h.sto.low.2.2.2.1 u l hb hl (h.rows _ hp).1.rd).mono ?_
  rintro e w' ⟨rfl, v', rs', S', C'⟩
  refine ⟨rfl, v', rs', S', h.blk.chs C' h.off.1 h.off.2.1 h.off.2.2, ⟨h.off.1, h.off.2.1, C'.off h.blk.lt h.off.2.2⟩, fun p hp => (h.rows p hp).1.chs C' (h.rows p hp).2, h.bel.trans C'.below⟩
theorem Own.own_ge {w : World} {B : Nat} {u : Value} {l : List Int} (h : Own w B u l) : ∀ g, u.ownBlock = some g → B ≤ g := fun g hg => (h.lt g hg).1
set_option maxHeartbeats 8000000 in
theorem st_alive (w : World) : Calls Tryz.prog 12 #[] w fun e w' => e = .returned (.bool true) ∧ Below w.heap.size w w' := by
  go_enter Tryz.func12, Tryz.ntmps12
  go_wp2_with fail
  refine (st_new w 4 (by omega) (by omega)).mono ?_; rintro e w1 ⟨rfl, S1, b1⟩
  obtain ⟨H, hH⟩ : ∃ H, w.heap.size = H := ⟨_, rfl⟩
  have HH : Hid (w.heap.size = H) := hH
  rw [hH] at S1 b1
  rw [hH]
  have SS1 : Hid (StoV w1 H (H + 1) H (.slice none 0 0) (emptyR 4) (emptyS 4)) := S1
  have B1 : Hid (Below H w w1) := b1
  clear S1 b1 hH
  go_wp2_with fail
  refine (by_any w1 xg1 x_ok1 (.slice none 0 0) 0 noA (fun i hi => absurd hi (by omega)) (RdR.none _)).mono ?_; rintro e w2 ⟨u1, rfl, o1, b2⟩
  have hw1 : H + 1 < w1.heap.size := SS1.out.blk.lt
  have hw2 := b2.size
  have SS2 : Hid (StoV w2 H (H + 1) H (.slice none 0 0) (emptyR 4) (emptyS 4)) := SS1.out.below b2
  have B2 : Hid (Below H w w2) := bup B1.out (Nat.le_of_eq HH.out.symm) b2
  have O1 : Hid (Own w2 (H + 1 + 1) u1 (xB xg1)) := Own.mono o1 (by omega)
  clear SS1 B1 o1 b2
  have hw2' : H + 1 < w2.heap.size := by omega
  clear hw1 hw2
  go_wp2_with fail
  refine (by_any w2 xg2 x_ok2 (.slice none 0 0) 0 noA (fun i hi => absurd hi (by omega)) (RdR.none _)).mono ?_; rintro e w3 ⟨u2, rfl, o2, b3⟩
  have hw3 := b3.size
  have SS3 : Hid (StoV w3 H (H + 1) H (.slice none 0 0) (emptyR 4) (emptyS 4)) := SS2.out.below b3
  have B3 : Hid (Below H w w3) := bup B2.out (Nat.le_of_eq HH.out.symm) b3
  have O12 : Hid (Own w3 (H + 1 + 1) u1 (xB xg1)) := O1.out.below b3
  have O22 : Hid (Own w3 (H + 1 + 1) u2 (xB xg2)) := Own.mono o2 (by omega)
  clear SS2 B2 O1 o2 b3
  have hw3' : H + 1 < w3.heap.size := by omega
  clear hw2' hw3
  go_wp2_with fail
  refine (by_any w3 xg3 x_ok3 (.slice none 0 0) 0 noA (fun i hi => absurd hi (by omega)) (RdR.none _)).mono ?_; rintro e w4 ⟨u3, rfl, o3, b4⟩
  have hw4 := b4.size
  have SS4 : Hid (StoV w4 H (H + 1) H (.slice none 0 0) (emptyR 4) (emptyS 4)) := SS3.out.below b4
  have B4 : Hid (Below H w w4) := bup B3.out (Nat.le_of_eq HH.out.symm) b4
  have O13 : Hid (Own w4 (H + 1 + 1) u1 (xB xg1)) := O12.out.below b4
  have O23 : Hid (Own w4 (H + 1 + 1) u2 (xB xg2)) := O22.out.below b4
  have O33 : Hid (Own w4 (H + 1 + 1) u3 (xB xg3)) := Own.mono o3 (by omega)
  clear SS3 B3 O12 O22 o3 b4
  have hw4' : H + 1 < w4.heap.size := by omega
  clear hw3' hw4
  obtain ⟨a1, k1, e1, -⟩ := O13.out.rd
  obtain ⟨a2, k2, e2, -⟩ := O23.out.rd
  obtain ⟨a3, k3, e3, -⟩ := O33.out.rd
  obtain ⟨n1, hn1⟩ : ∃ x, (xB xg1).length = x := ⟨_, rfl⟩
  obtain ⟨n2, hn2⟩ : ∃ x, (xB xg2).length = x := ⟨_, rfl⟩
  obtain ⟨n3, hn3⟩ : ∃ x, (xB xg3).length = x := ⟨_, rfl⟩
  rw [hn1] at e1
  rw [hn2] at e2
  rw [hn3] at e3
  subst e1 e2 e3
  clear hn1 hn2 hn3
  go_upto_region 5 with fail
  generalize hW : w4.alloc (.cells #[.slice a1 n1 k1, .slice a2 n2 k2, .slice a3 n3 k3] 32) = W5
  obtain ⟨L5, b5, -⟩ := boxed hW
  obtain ⟨LB, hLB⟩ : ∃ x, w4.heap.size = x := ⟨_, rfl⟩
  have AL0 : Hid (AlV w W5 H LB [(.slice a1 n1 k1, xB xg1), (.slice a2 n2 k2, xB xg2), (.slice a3 n3 k3, xB xg3)] (.slice none 0 0) (emptyR 4) (emptyS 4)) := by
    rw [hLB] at L5 hw4'
    refine ⟨SS4.out.below b5, L5, ⟨by omega, by omega, by simp [Value.ownBlock]⟩, fun p hp => ?_, bup B4.out (Nat.le_of_eq HH.out.symm) b5⟩
    have one : ∀ u l, Own w4 (H + 1 + 1) u l → Own W5 H u l ∧ ∀ g, u.ownBlock = some g → g ≠ H + 1 ∧ g ≠ H ∧ some g ≠ (Value.slice none 0 0).ownBlock := fun u l o => ⟨(o.below b5).mono (by omega), fun g hg => by
      have := o.own_ge g hg
      exact ⟨by omega, by omega, by simp [Value.ownBlock]⟩⟩
    simp only [List.mem_cons, List.not_mem_nil, or_false] at hp
    rcases hp with rfl | rfl | rfl
    · exact one _ _ O13.out
    · exact one _ _ O23.out
    · exact one _ _ O33.out
  rw [hLB]
  obtain ⟨c1, c2, c3, c4⟩ : (Bytes (xB xg1) ∧ (xB xg1).length ≤ 140737488355328) ∧ (Bytes (xB xg2) ∧ (xB xg2).length ≤ 140737488355328) ∧ (Bytes (xB xg3) ∧ (xB xg3).length ≤ 140737488355328) ∧ True := ⟨(x_rg x_w1).2.2.2, (x_rg x_w2).2.2.2, (x_rg x_w3).2.2.2, trivial⟩
  have HC1 : Hid _ := c1
  have HC2 : Hid _ := c2
  have HC3 : Hid _ := c3
  clear hW hLB L5 b5 SS4 B4 O13 O23 O33 hw4' c1 c2 c3 c4
  -- the first
  have l0 := AL0.out.blk.cell 0 _ rfl
  go_wp2_with fail
  refine wp_loop_rounds 4 ?_
  rw [rounds_succ]
  go_wp2_with fail
  refine (AL0.out.acc (.slice a1 n1 k1) (xB xg1) (by simp) HC1.out.1 HC1.out.2).mono ?_; rintro e w6 ⟨rfl, v6, rs6, A6⟩
  rw [x_a1.1, x_a1.2.1]
  have AL1 : Hid (AlV w w6 H LB [(.slice a1 n1 k1, xB xg1), (.slice a2 n2 k2, xB xg2), (.slice a3 n3 k3, xB xg3)] v6 rs6 xs1) := by
    have := A6
    rw [x_a1.2.2] at this
    exact this
  clear A6 AL0 l0
  go_wp2_with fail
  obtain ⟨V1, hV1⟩ : ∃ V, w6.alloc (.cells #[.int .i64 1, .int .i64 3, .int .i64 2] 2) = V := ⟨_, rfl⟩
  have AM1 : Hid (AlV w V1 H LB [(.slice a1 n1 k1, xB xg1), (.slice a2 n2 k2, xB xg2), (.slice a3 n3 k3, xB xg3)] v6 rs6 xs1) := AL1.out.below (by rw [← hV1]; exact (Below.refl _ _).alloc (Nat.le_refl _) _)
  rw [hV1]
  clear hV1 AL1
  have l1 := AM1.out.blk.cell 1 _ rfl
  rw [rounds_succ]
  go_wp2_with fail
  refine (AM1.out.acc (.slice a2 n2 k2) (xB xg2) (by simp) HC2.out.1 HC2.out.2).mono ?_; rintro e w7 ⟨rfl, v7, rs7, A7⟩
  rw [x_a2.1, x_a2.2.1]
  have AL2 : Hid (AlV w w7 H LB [(.slice a1 n1 k1, xB xg1), (.slice a2 n2 k2, xB xg2), (.slice a3 n3 k3, xB xg3)] v7 rs7 xs2) := by
    have := A7
    rw [x_a2.2.2] at this
    exact this
  clear A7 AM1 l1
  go_wp2_with fail
  obtain ⟨V2, hV2⟩ : ∃ V, w7.alloc (.cells #[.int .i64 1, .int .i64 3, .int .i64 2] 2) = V := ⟨_, rfl⟩
  have AM2 : Hid (AlV w V2 H LB [(.slice a1 n1 k1, xB xg1), (.slice a2 n2 k2, xB xg2), (.slice a3 n3 k3, xB xg3)] v7 rs7 xs2) := AL2.out.below (by rw [← hV2]; exact (Below.refl _ _).alloc (Nat.le_refl _) _)
  rw [hV2]
  clear hV2 AL2
  have l2 := AM2.out.blk.cell 2 _ rfl
  rw [rounds_succ]
  go_wp2_with fail
  refine (AM2.out.acc (.slice a3 n3 k3) (xB xg3) (by simp) HC3.out.1 HC3.out.2).mono ?_; rintro e w8 ⟨rfl, v8, rs8, A8⟩
  rw [x_a3.1, x_a3.2.1]
  have AL3 : Hid (AlV w w8 H LB [(.slice a1 n1 k1, xB xg1), (.slice a2 n2 k2, xB xg2), (.slice a3 n3 k3, xB xg3)] v8 rs8 xs3) := by
    have := A8
    rw [x_a3.2.2] at this
    exact this
  clear A8 AM2 l2
  go_wp2_with fail
  obtain ⟨V3, hV3⟩ : ∃ V, w8.alloc (.cells #[.int .i64 1, .int .i64 3, .int .i64 2] 2) = V := ⟨_, rfl⟩
  have AM3 : Hid (AlV w V3 H LB [(.slice a1 n1 k1, xB xg1), (.slice a2 n2 k2, xB xg2), (.slice a3 n3 k3, xB xg3)] v8 rs8 xs3) := AL3.out.below (by rw [← hV3]; exact (Below.refl _ _).alloc (Nat.le_refl _) _)
  rw [hV3]
  clear hV3 AL3
  have l1 := AM3.out.blk.cell 1 _ rfl
  rw [rounds_succ]
  go_wp2_with fail
  refine (AM3.out.acc (.slice a2 n2 k2) (xB xg2) (by simp) HC2.out.1 HC2.out.2).mono ?_; rintro e w9 ⟨rfl, v9, rs9, A9⟩
  rw [x_a4.1, x_a4.2.1]
  have AL4 : Hid (AlV w w9 H LB [(.slice a1 n1 k1, xB xg1), (.slice a2 n2 k2, xB xg2), (.slice a3 n3 k3, xB xg3)] v9 rs9 xs4) := by
    have := A9
    rw [x_a4.2.2] at this
    exact this
  clear A9 AM3 l1
  go_wp2_with fail
  refine (st_at w9 H (H + 1) H v9 rs9 xs4 AL4.out.sto 1 (by decide) (by decide)).mono ?_; rintro e w10 ⟨u, rfl, o10, b10⟩
  have AL5 : Hid (AlV w w10 H LB [(.slice a1 n1 k1, xB xg1), (.slice a2 n2 k2, xB xg2), (.slice a3 n3 k3, xB xg3)] v9 rs9 xs4) := AL4.out.below b10
  obtain ⟨au, ku, e10⟩ := o10.form
  obtain ⟨nu, hnu⟩ : ∃ x, (preE (atE (atS xs4.L 1).E) (atS xs4.L 1).E.length).length = x := ⟨_, rfl⟩
  rw [hnu] at e10
  subst e10
  clear AL4 b10 o10 hnu
  have et : (atS xs4.L 1).t = 2 := rfl
  have em : (atS xs4.L 1).m = 20 := rfl
  rw [et, em]
  clear et em
  go_upto_region 14 with fail
  generalize hV : w10.alloc (.cells #[.int .i64 2, .int .i64 20, .slice au nu ku] 45) = W11
  obtain ⟨X11, bn, -⟩ := boxed hV
  have AL6 : Hid (AlV w W11 H LB [(.slice a1 n1 k1, xB xg1), (.slice a2 n2 k2, xB xg2), (.slice a3 n3 k3, xB xg3)] v9 rs9 xs4) := AL5.out.below bn
  obtain ⟨PX, hPX⟩ : ∃ x, w10.heap.size = x := ⟨_, rfl⟩
  rw [hPX] at X11
  rw [hPX]
  clear hV hPX bn AL5
  have x0 := X11.cell 0 _ rfl
  have lx := X11.lt
  go_wp2_with fail
  refine (st_len W11 H (H + 1) H v9 rs9 xs4 AL6.out.sto).mono ?_; rintro e w12 ⟨rfl, rfl⟩
  have e3 : ((xs4.L.length : Nat) : Int) = 3 := rfl
  rw [e3]
  clear e3
  go_wp2_with fail
  refine (st_taken w12 H (H + 1) H v9 rs9 xs4 AL6.out.sto).mono ?_; rintro e w13 ⟨rfl, rfl⟩
  have e3 : xs4.N.getD 0 0 = 3 := rfl
  rw [e3]
  clear e3
  go_wp2_with fail
  refine (st_refused w13 H (H + 1) H v9 rs9 xs4 AL6.out.sto 12 (by omega) (by omega)).mono ?_; rintro e w14 ⟨rfl, rfl⟩
  have e3 : xs4.N.getD 12 0 = 1 := rfl
  rw [e3]
  clear e3
  go_wp2_with fail
  go_ret
  exact ⟨rfl, by rw [HH.out]; exact AL6.out.bel⟩
end Go.Proofs.YtggninahglfcpaaGreat

namespace Go.Proofs.YtggninahglfcpaaGreat
open Go.RowKit
set_option linter.unusedVariables false
set_option maxRecDepth 20000
theorem st_refused_zero (w : World) (B S R : Nat) (v : Value) (rs : Rs) (m : Nat) (h : StoV w B S R v rs (emptyS m)) (e : Int) :
    Calls Tryz.prog 19 #[.pointer (some ⟨S, 0, none⟩), .int .i64 e] w fun r w' => r = .returned (.int .i64 0) ∧ w' = w := by
  by_cases he : e ≤ 0 ∨ 18 ≤ e
  · exact st_refused_out w S e he
  · obtain ⟨n, rfl⟩ : ∃ n : Nat, e = n := ⟨e.toNat, by omega⟩
    have c := st_refused w B S R v rs (emptyS m) h n (by omega) (by omega)
    have e0 : (emptyS m).N.getD n 0 = 0 := by
      show (List.replicate 18 (0 : Int)).getD n 0 = 0
      rw [List.getD, List.getElem?_replicate]
      split <;> rfl
    rw [e0] at c
    exact c
end Go.Proofs.YtggninahglfcpaaGreat

namespace Go.Proofs.YtggninahglfcpaaGreat
open Go.RowKit
set_option linter.unusedVariables false
set_option maxRecDepth 20000

theorem StoV.by_ {w w' : World} {B S R g : Nat} {v : Value} {rs : Rs} {s : Sto} (h : StoV w B S R v rs s) (hg : w.grownBy w' (some g)) (hgB : g < B) : StoV w' B S R v rs s := by
  have hS := h.le
  have hR := h.rng.le
  refine ⟨h.blk.by_ hg (fun e => by injection e with e; omega), ⟨h.rng.blk.by_ hg (fun e => by injection e with e; omega), h.rng.own.kept hg ?_, h.rng.ok, h.rng.ones, h.rng.ne, h.rng.le⟩, h.most, h.kept.mono ?_, h.ne, h.nev, h.le, h.num⟩
  · cases hq : v.ownBlock with
    | none => exact Or.inl rfl
    | some q => exact Or.inr (fun e => by have := (h.rng.own.lt q hq).1; injection e with e; omega)
  · rintro p s ⟨ao, n, c, rfl, h1, h2⟩
    refine ⟨ao, n, c, rfl, World.ownsRow.kept h1 hg ?_, h2⟩
    cases hq : (Value.slice ao n c).ownBlock with
    | none => exact Or.inl rfl
    | some q => exact Or.inr (fun e => by have := (h1.lt q hq).1; injection e with e; omega)
theorem ful_back {t m : Int} {L : List En} {t' m' : Int} {E : List En} (ob : ∀ x ∈ E, x.ok) (h : fulE t' m' E = 0) :
    aplE t m L ⟨t', m', -1⟩ (atR (fulL t' m' E)) (fulL t' m' E).length = 0 ∧ aplL t m L ⟨t', m', -1⟩ (atR (fulL t' m' E)) (fulL t' m' E).length = E := by
  obtain ⟨h2, h4, h6⟩ := ful_told h ob
  obtain ⟨R, hR⟩ : ∃ R, fulL t' m' E = R := ⟨_, rfl⟩
  rw [hR] at h6
  rw [hR]
  obtain ⟨b0, b1, b2, b3, b4⟩ := sn_ok h2
  have hl := h6.len
  have hg0 : gmE ⟨t', m', -1⟩ (atR R) R.length = 0 := by
    have hh : hedE ⟨t', m', -1⟩ R.length = 0 := by
      unfold hedE
      rw [if_neg, if_neg (by simp only; omega), if_neg (by simp at hl; omega)]
      simp only [b2]
      rintro (q | q | q | q)
      · omega
      · omega
      · cases q
      · omega
    unfold gmE
    rw [if_pos hh, pre_atR]
    exact gm_of_asc (by omega) (by omega) h6.asc_
  have hw : wasL (⟨t', m', -1⟩ : Gm).b L = [] := by unfold wasL; rw [if_pos rfl]
  obtain ⟨k1, k2, k3, k4⟩ := (apl_end (t := t) (m := m) (L := L) hg0 (fun q => q.1 rfl) (fun q => q.1 rfl) (by rw [hw]; trivial) (gm_asc hg0)).2.2 E (by
    rw [← apl_all _ _ (-1) (by rw [hw]; trivial) (gm_asc hg0), hw, pre_atR]; exact h6.made) (by omega)
  exact ⟨k1, k4⟩
/-- Bytes that tell a snapshot in full are kept as it is. -/
theorem ful_kept {t m : Int} {E : List En} (ob : ∀ x ∈ E, x.ok) (M : Nat) (hM : 2 ≤ M) (h : fulE t m E = 0) (l : List Int) (h1 : rgE l = 0) (h2 : rgG l = ⟨t, m, -1⟩) (h3 : rgL l = fulL t m E) :
    tkE (emptyS M) l = 0 ∧ tkT (emptyS M) l = t ∧ (accS (emptyS M) l).L = [⟨t, m, E⟩] ∧ (accS (emptyS M) l).M = M := by
  obtain ⟨k1, k2⟩ := ful_back (t := 0) (m := 0) (L := []) ob h
  have hb : tkB [] (-1) = noSn := by unfold tkB; rw [if_pos rfl]
  have ha : tkA [] ⟨t, m, -1⟩ (fulL t m E) = 0 := k1
  have hx : tkX [] ⟨t, m, -1⟩ (fulL t m E) = ⟨t, m, E⟩ := by unfold tkX; rw [show (tkB [] (-1 : Int)).t = 0 from rfl]; exact congrArg (Sn.mk t m) k2
  have e : tkE (emptyS M) l = 0 := by
    unfold tkE
    rw [if_pos h1, h2, h3]
    unfold stpE
    rw [if_neg (by simp [emptyS, isS, untS]), if_neg (by simp [emptyS]; omega), if_neg (by simp), if_neg (by show ¬ tkA [] _ _ ≠ 0; rw [ha]; simp)]
    rw [if_neg]
    show ¬ lateB [] _ = true
    simp [lateB, untS]
  refine ⟨e, by unfold tkT; rw [if_pos e, h2], ?_, rfl⟩
  show tkL (emptyS M) l = _
  unfold tkL
  rw [if_pos e, h2, h3]
  show keepS M [] (tkX [] _ _) = _
  rw [hx]
  unfold keepS
  rw [if_pos (by simp; omega)]
  rfl
/-- Of rows that are written: what is at some cells. -/
def CellW (w : World) (g k : Nat) (n : Nat) (P : Value → Prop) : Prop := ∀ i, i < n → ∃ x, P x ∧ w.cell? ⟨g, i * 9 + k, none⟩ = some x ∧ w.frozen? ⟨g, i * 9 + k, none⟩ = false
theorem CellW.below {w w' : World} {g k n : Nat} {P : Value → Prop} (h : CellW w g k n P) (hb : Below w.heap.size w w') (hg : g < w.heap.size) : CellW w' g k n P := fun i hi => by
  obtain ⟨x, h1, h2, h3⟩ := h i hi
  exact ⟨x, h1, (hb.cell (p := ⟨g, i * 9 + k, none⟩) hg).trans h2, (hb.frozen (p := ⟨g, i * 9 + k, none⟩) hg).trans h3⟩
end Go.Proofs.YtggninahglfcpaaGreat

namespace Go.Proofs.YtggninahglfcpaaGreat
open Go.RowKit
set_option linter.unusedVariables false
theorem CellW.set {w : World} {g k n i : Nat} {P : Value → Prop} {u : Value} (h : CellW w g k n P) (hu : P u) : CellW (w.setCell ⟨g, i * 9 + k, none⟩ u) g k n P := fun j hj => by
  obtain ⟨x, h1, h2, h3⟩ := h j hj
  by_cases e : i = j
  · subst e
    exact ⟨u, hu, World.cell?_setCell_same _ _ _ (u := x) h2, (World.frozen?_setCell _ _ _ _).trans h3⟩
  · exact ⟨x, h1, (World.cell?_setCell_other _ _ _ _ (by intro h'; injection h' with _ h'; omega)).trans h2, (World.frozen?_setCell _ _ _ _).trans h3⟩
theorem CellW.other {w : World} {g k n : Nat} {P : Value → Prop} {p : Addr} (h : CellW w g k n P) (hp : p.block ≠ g) (u : Value) : CellW (w.setCell p u) g k n P := fun j hj => by
  obtain ⟨x, h1, h2, h3⟩ := h j hj
  exact ⟨x, h1, (World.cell?_setCell_other _ _ _ _ (by intro h'; exact hp (by rw [h']))).trans h2, (World.frozen?_setCell _ _ _ _).trans h3⟩
theorem own_cellW {w : World} {B n c : Nat} {ao : Option Addr} {L : List En} (h : OwnE w B (.slice ao n c) L) (hl : L.length = n) :
    ∃ g, (0 < n → ao = some ⟨g, 0, none⟩ ∧ B ≤ g ∧ g < w.heap.size) ∧ CellW w g 7 n (fun x => ∃ a, x = .int .u16 a) ∧ CellW w g 0 n (fun _ => True) := by
  subst hl
  by_cases hn : L = []
  · subst hn
    exact ⟨0, fun h => by simp at h, fun i hi => by simp at hi, fun i hi => by simp at hi⟩
  · obtain ⟨g, cap, e, hb, hg, _, _, hc⟩ := h.cells hn
    injection e with e1 e2 e3
    subst e1
    exact ⟨g, fun _ => ⟨rfl, hb, hg⟩, fun i hi => ⟨_, ⟨_, rfl⟩, hc i hi 7 _ rfl, World.ownsRow.frozenAt h _⟩, fun i hi => ⟨_, trivial, hc i hi 0 _ rfl, World.ownsRow.frozenAt h _⟩⟩
end Go.Proofs.YtggninahglfcpaaGreat
