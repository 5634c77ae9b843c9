/-
  Layer 8 (record): what Apply makes of an entity by what is others (no function of the program in sight).
-/
import Derived.Test.YticcafmelijngaaRec10
namespace Go.Proofs.Yticcafmelijngaa
open Go.RowKit
set_option linter.unusedVariables false

theorem wr_back {a b : Int} (hb : S64 b) : wrap64 (a + wrap64 (b - a)) = b := by unfold S64 at hb; unfold wrap64; omega
theorem wr_zero {a b : Int} (ha : S64 a) (hb : S64 b) (h : wrap64 (b - a) = 0) : a = b := by unfold S64 at ha hb; unfold wrap64 at h; omega
theorem w16_back {a b : Int} (hb : 0 ≤ b ∧ b ≤ 65535) : IntKind.u16.wrap (a + IntKind.u16.wrap (b - a)) = b := by rw [IntKind.wrap_u16, IntKind.wrap_u16]; omega
theorem w16_zero {a b : Int} (ha : 0 ≤ a ∧ a ≤ 65535) (hb : 0 ≤ b ∧ b ≤ 65535) (h : IntKind.u16.wrap (b - a) = 0) : a = b := by rw [IntKind.wrap_u16] at h; omega
/-- By an Update. -/
theorem made_upd {a b : En} (ha : a.ok) (hb : b.ok) (hi : a.i = b.i) (h0 : 0 ≤ a.i) (h1 : a.i ≤ 65535) (hg : a.g = b.g) (hne : entB a b = false) :
    difR a b = updR a b ∧ chk (updR a b) = 0 ∧ appE a (updR a b) = 0 ∧ appN a (updR a b) = b := by
  have e1 : difR a b = updR a b := by unfold difR; rw [hne, if_neg (by simp), if_pos hg]
  have hem : emptyB (updR a b) = false := by
    cases e : emptyB (updR a b)
    · rfl
    · obtain ⟨⟨q0, q1, q2, q3, q4, q5⟩, q6⟩ := (emptyB_iff _).1 e
      have : a = b := by
        have k0 := wr_zero ha.p0 hb.p0 q0
        have k1 := wr_zero ha.p1 hb.p1 q1
        have k2 := wr_zero ha.p2 hb.p2 q2
        have k3 := wr_zero ha.v0 hb.v0 q3
        have k4 := wr_zero ha.v1 hb.v1 q4
        have k5 := wr_zero ha.v2 hb.v2 q5
        have k6 := w16_zero ha.a hb.a q6
        cases a; cases b
        simp only at hi hg k0 k1 k2 k3 k4 k5 k6
        subst hi hg k0 k1 k2 k3 k4 k5 k6
        rfl
      rw [this, entB_same] at hne
      exact absurd hne (by simp)
  have e2 : chk (updR a b) = 0 := by
    unfold chk
    rw [hem]
    have hk : (updR a b).k = 1 := rfl
    have hj : (updR a b).i = b.i := rfl
    rw [hk, hj, if_neg (by omega), if_neg (by omega), if_neg (by simp)]
  have e3 : appE a (updR a b) = 0 := by
    have hk : (updR a b).k = 1 := rfl
    have hj : (updR a b).i = b.i := rfl
    unfold appE
    rw [if_pos e2, hk, hj, if_neg (by omega)]
  refine ⟨e1, e2, e3, ?_⟩
  have hk : (updR a b).k = 1 := rfl
  unfold appN
  rw [if_pos e3, hk, if_neg (by omega)]
  unfold addE updR
  simp only [wr_back hb.p0, wr_back hb.p1, wr_back hb.p2, wr_back hb.v0, wr_back hb.v1, wr_back hb.v2, w16_back hb.a, hi, hg]
/-- By a Teleport. -/
theorem made_jump {a b : En} (hi : a.i = b.i) (h0 : 0 ≤ a.i) (h1 : a.i ≤ 65535) (hg : b.g = (a.g + 1) % 256) (hag : 0 ≤ a.g ∧ a.g ≤ 255) :
    entB a b = false ∧ difR a b = ⟨3, b.i, b.p0, b.p1, b.p2, b.v0, b.v1, b.v2, b.a⟩ ∧ chk (difR a b) = 0 ∧ appE a (difR a b) = 0 ∧ appN a (difR a b) = b := by
  have hne : a.g ≠ b.g := by omega
  have e0 : entB a b = false := entB_no (fun h => hne (by rw [h]))
  have e1 : difR a b = ⟨3, b.i, b.p0, b.p1, b.p2, b.v0, b.v1, b.v2, b.a⟩ := by unfold difR; rw [e0, if_neg (by simp), if_neg hne]
  have e2 : chk (difR a b) = 0 := by
    rw [e1]; unfold chk
    rw [if_neg (by simp), if_neg (by simp only; omega), if_neg (by simp)]
  have e3 : appE a (difR a b) = 0 := by
    unfold appE
    rw [if_pos e2, e1, if_neg (by simp only; omega)]
  refine ⟨e0, e1, e2, e3, ?_⟩
  unfold appN
  rw [if_pos e3, e1, if_pos rfl]
  unfold jumpE
  rw [hi, ← hg]
theorem id_bd (x : Int) : 0 ≤ wrap64 ((IntKind.u64.wrap x).tmod 65536) ∧ wrap64 ((IntKind.u64.wrap x).tmod 65536) ≤ 65535 := by
  rw [IntKind.wrap_u64]
  have h : 0 ≤ x % 18446744073709551616 := by omega
  rw [Int.tmod_eq_emod_of_nonneg h]
  unfold wrap64
  omega
theorem Blk.others {w : World} {b c : Nat} {cs : List Value} {x0 x1 x2 x3 x4 x5 x6 x7 x8 : Value} (h : Blk w c cs) (hn : b ≠ c) :
    Blk (((((((((w.setCell ⟨b, 0, none⟩ x0).setCell ⟨b, 1, none⟩ x1).setCell ⟨b, 2, none⟩ x2).setCell ⟨b, 3, none⟩ x3).setCell ⟨b, 4, none⟩ x4).setCell ⟨b, 5, none⟩ x5).setCell ⟨b, 6, none⟩ x6).setCell ⟨b, 7, none⟩ x7).setCell ⟨b, 8, none⟩ x8) c cs :=
  ((((((((h.other (p := ⟨b, 0, none⟩) hn x0).other (p := ⟨b, 1, none⟩) hn x1).other (p := ⟨b, 2, none⟩) hn x2).other (p := ⟨b, 3, none⟩) hn x3).other (p := ⟨b, 4, none⟩) hn x4).other (p := ⟨b, 5, none⟩) hn x5).other (p := ⟨b, 6, none⟩) hn x6).other (p := ⟨b, 7, none⟩) hn x7).other (p := ⟨b, 8, none⟩) hn x8
theorem boxed2 {w W : World} {a b : Array Value} {t1 t2 : TypeId} (h : (w.alloc (.cells a t1)).alloc (.cells b t2) = W) :
    Blk W w.heap.size a.toList ∧ Blk W (w.heap.size + 1) b.toList ∧ Below w.heap.size w W := by
  subst h
  exact ⟨(Blk.new w _ _ rfl).alloc _, Blk.new _ _ _ (by simp), ((Below.refl _ _).alloc (Nat.le_refl _) _).alloc (by simp) _⟩
end Go.Proofs.Yticcafmelijngaa
