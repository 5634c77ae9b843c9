/-
  Layer 15 (delay): a config as a value, and the contracts of what is reckoned of it: whether its numbers may be, and what an estimate asks for; the document's too.
-/
import Derived.Test.YtmclcoaicngodaaRdr
import Derived.Test.YtmclcoaicngodaaDy1
import Derived.Test.YtmclcoaicngodaaRefAdds
import Derived.Test.YtmclcoaicngodaaRefMul
import Derived.Test.YtmclcoaicngodaaRefClamp
import Derived.Deep.LoopGhost
namespace Go.Proofs.Ytmclcoaicngodaa
open Go.RowKit
set_option linter.unusedVariables false
set_option maxRecDepth 20000

theorem boxed {w W : World} {cs : Array Value} {t : TypeId} (h : w.alloc (.cells cs t) = W) : Blk W w.heap.size cs.toList ∧ Below w.heap.size w W ∧ W.heap.size = w.heap.size + 1 := by
  subst h
  exact ⟨Blk.new w cs t rfl, (Below.refl _ w).alloc (Nat.le_refl _) _, by simp⟩
theorem Blk.below {w w' : World} {b B : Nat} {cs : List Value} (h : Blk w b cs) (k : Below B w w') (hB : b < B) : Blk w' b cs :=
  ⟨Nat.lt_of_lt_of_le h.lt k.size, fun i hi => (k.cell (p := ⟨b, i, none⟩) hB).trans (h.all i hi), fun i => (k.frozen (p := ⟨b, i, none⟩) hB).trans (h.froz i)⟩

/-- A config: eleven numbers of which the last one is a sign. -/
structure Cfg where
  ring : Int
  win : Int
  base : Int
  gain : Int
  least : Int
  most : Int
  slack : Int
  num : Int
  den : Int
  ext : Int
  curved : Bool
def Cfg.cf (c : Cfg) : Cf := ⟨c.base, c.gain, c.least, c.most, c.slack⟩
def S64 (x : Int) : Prop := -9223372036854775808 ≤ x ∧ x ≤ 9223372036854775807
structure Cfg.ok (c : Cfg) : Prop where
  ring : S64 c.ring
  win : S64 c.win
  base : S64 c.base
  gain : S64 c.gain
  least : S64 c.least
  most : S64 c.most
  slack : S64 c.slack
  num : S64 c.num
  den : S64 c.den
  ext : S64 c.ext
abbrev cfgC (c : Cfg) : List Value := [.int .i64 c.ring, .int .i64 c.win, .int .i64 c.base, .int .i64 c.gain, .int .i64 c.least, .int .i64 c.most, .int .i64 c.slack, .int .i64 c.num, .int .i64 c.den, .int .i64 c.ext, .bool c.curved]
abbrev cfgA (c : Cfg) : Array Value := #[.int .i64 c.ring, .int .i64 c.win, .int .i64 c.base, .int .i64 c.gain, .int .i64 c.least, .int .i64 c.most, .int .i64 c.slack, .int .i64 c.num, .int .i64 c.den, .int .i64 c.ext, .bool c.curved]
abbrev cfgV (c : Cfg) : Value := .agg #[.int .i64 c.ring, .int .i64 c.win, .int .i64 c.base, .int .i64 c.gain, .int .i64 c.least, .int .i64 c.most, .int .i64 c.slack, .int .i64 c.num, .int .i64 c.den, .int .i64 c.ext, .bool c.curved]

abbrev numA (c : Cfg) : Array Value := #[.int .i64 c.base, .int .i64 2305843009213693952, .int .i64 c.least, .int .i64 2305843009213693952, .int .i64 c.most, .int .i64 2305843009213693952, .int .i64 c.slack, .int .i64 2305843009213693952, .int .i64 c.gain, .int .i64 68719476736]
/-- The five numbers, each with the greatest that it may be. -/
theorem dy_numbers (w : World) (c : Cfg) : Calls Try.prog 20 #[cfgV c] w fun e w' =>
    e = .returned (.agg (numA c)) ∧ Below w.heap.size w w' := by
  obtain ⟨n0, n1, n2, n3, n4, n5, n6, n7, n8, n9, n10⟩ := c
  go_enter Try.func20, Try.ntmps20
  go_wp2_with fail
  refine bodyPost_ret (v := .agg (numA ⟨n0, n1, n2, n3, n4, n5, n6, n7, n8, n9, n10⟩)) (by simp [results, Try.results20, go_sem]) rfl ⟨rfl, ((Below.refl _ _).alloc (Nat.le_refl _) _).alloc (by simp) _⟩

/-- What number k is, and the greatest that it may be. -/
def isK (c : Cfg) (k : Nat) : Int := if k = 0 then c.base else if k = 1 then c.least else if k = 2 then c.most else if k = 3 then c.slack else c.gain
def topK (k : Nat) : Int := if k < 4 then 2305843009213693952 else 68719476736
theorem cf_no {c : Cfg} {k : Nat} (hk : k < 5) (h : isK c k < 0 ∨ topK k < isK c k) : cfE c.cf = 3 := by
  unfold cfE Cfg.cf
  rw [if_neg ?_]
  intro q
  simp only at q
  unfold isK topK at h
  match k, hk with
  | 0, _ => simp at h; omega
  | 1, _ => simp at h; omega
  | 2, _ => simp at h; omega
  | 3, _ => simp at h; omega
  | 4, _ => simp at h; omega
theorem cf_yes {c : Cfg} (h : ∀ k, k < 5 → 0 ≤ isK c k ∧ isK c k ≤ topK k) : cfE c.cf = if c.most < c.least then 10 else 0 := by
  have h0 := h 0 (by omega)
  have h1 := h 1 (by omega)
  have h2 := h 2 (by omega)
  have h3 := h 3 (by omega)
  have h4 := h 4 (by omega)
  simp [isK, topK] at h0 h1 h2 h3 h4
  unfold cfE Cfg.cf
  rw [if_pos ?_]
  simp only
  omega
theorem num_at {c : Cfg} {k : Nat} (hk : k < 5) : (numA c).extract (k * 2) (k * 2 + 2) = #[.int .i64 (isK c k), .int .i64 (topK k)] := by
  match k, hk with
  | 0, _ => rfl
  | 1, _ => rfl
  | 2, _ => rfl
  | 3, _ => rfl
  | 4, _ => rfl

theorem dy_check (w : World) (c : Cfg) : Calls Try.prog 11 #[cfgV c] w fun e w' => e = .returned (.int .i64 (cfE c.cf)) ∧ Below w.heap.size w w' := by
  go_enter Try.func11, Try.ntmps11
  go_wp2_with fail
  generalize hW : w.alloc (.cells (cfgA c) 23) = W
  obtain ⟨A0, B0, Z0⟩ := boxed hW
  clear hW
  refine (dy_numbers _ c).mono ?_; rintro e w1 ⟨rfl, b1⟩
  have A1 : Hid _ := A0.below b1 (by omega)
  have B1 : Hid _ := bthen B0 b1
  clear A0 B0 Z0 b1
  go_wp2_with fail
  go_loopg [7] 5 (fun g i wr => ∃ (k : Nat), k + g = 5 ∧ i = .int .i64 k ∧ (∀ j, j < k → 0 ≤ isK c j ∧ isK c j ≤ topK j) ∧ Below w1.heap.size w1 wr)
  case atStart => exact ⟨0, by omega, rfl, fun j hj => by omega, Below.refl _ _⟩
  case round =>
    obtain ⟨k, hk, rfl, hl, hb⟩ := hrel
    have HL : Hid (∀ j, j < k → 0 ≤ isK c j ∧ isK c j ≤ topK j) := hl
    have BG : Hid (Below w1.heap.size w1 (wr.alloc (.cells #[.int .i64 (isK c k), .int .i64 (topK k)] 44))) := hb.alloc hb.size _
    have BX : Hid (Below w.heap.size w (wr.alloc (.cells #[.int .i64 (isK c k), .int .i64 (topK k)] 44))) := B1.out.trans (BG.out.mono B1.out.size)
    have BR : Hid (Below w.heap.size w wr) := B1.out.trans (hb.mono B1.out.size)
    have AR := A1.out.below hb A1.out.lt
    have a4 := AR.cell 4 _ rfl
    have a5 := AR.cell 5 _ rfl
    clear hl hb AR A1 B1
    by_cases hlt : k < 5
    · clear a4 a5
      obtain rfl | rfl | rfl | rfl | rfl : k = 0 ∨ k = 1 ∨ k = 2 ∨ k = 3 ∨ k = 4 := by omega
      · have ik : ∀ w : World, (Instr.index 45 (.agg (numA c)) (.int .i64 0)).run Try.prog w = .ok (.agg #[.int .i64 c.base, .int .i64 2305843009213693952]) w := fun _ => by kernel_rfl
        by_cases q1 : c.base < 0
        · go_wp2_with fail
          go_ret
          exact ⟨ret_int (cf_no (k := 0) (by omega) (Or.inl q1)).symm, BX.out⟩
        by_cases q2 : 2305843009213693952 < c.base
        · go_wp2_with fail
          go_ret
          exact ⟨ret_int (cf_no (k := 0) (by omega) (Or.inr q2)).symm, BX.out⟩
        · go_wp2_with fail
          go_roundg (5 - (0 + 1))
          case measure => omega
          case rel =>
            refine ⟨0 + 1, by omega, by go_num, ?_, BG.out⟩
            intro j hj
            by_cases e : j = 0
            · subst e; show 0 ≤ c.base ∧ c.base ≤ 2305843009213693952; omega
            · exact HL.out j (by omega)
      · have ik : ∀ w : World, (Instr.index 45 (.agg (numA c)) (.int .i64 1)).run Try.prog w = .ok (.agg #[.int .i64 c.least, .int .i64 2305843009213693952]) w := fun _ => by kernel_rfl
        by_cases q1 : c.least < 0
        · go_wp2_with fail
          go_ret
          exact ⟨ret_int (cf_no (k := 1) (by omega) (Or.inl q1)).symm, BX.out⟩
        by_cases q2 : 2305843009213693952 < c.least
        · go_wp2_with fail
          go_ret
          exact ⟨ret_int (cf_no (k := 1) (by omega) (Or.inr q2)).symm, BX.out⟩
        · go_wp2_with fail
          go_roundg (5 - (1 + 1))
          case measure => omega
          case rel =>
            refine ⟨1 + 1, by omega, by go_num, ?_, BG.out⟩
            intro j hj
            by_cases e : j = 1
            · subst e; show 0 ≤ c.least ∧ c.least ≤ 2305843009213693952; omega
            · exact HL.out j (by omega)
      · have ik : ∀ w : World, (Instr.index 45 (.agg (numA c)) (.int .i64 2)).run Try.prog w = .ok (.agg #[.int .i64 c.most, .int .i64 2305843009213693952]) w := fun _ => by kernel_rfl
        by_cases q1 : c.most < 0
        · go_wp2_with fail
          go_ret
          exact ⟨ret_int (cf_no (k := 2) (by omega) (Or.inl q1)).symm, BX.out⟩
        by_cases q2 : 2305843009213693952 < c.most
        · go_wp2_with fail
          go_ret
          exact ⟨ret_int (cf_no (k := 2) (by omega) (Or.inr q2)).symm, BX.out⟩
        · go_wp2_with fail
          go_roundg (5 - (2 + 1))
          case measure => omega
          case rel =>
            refine ⟨2 + 1, by omega, by go_num, ?_, BG.out⟩
            intro j hj
            by_cases e : j = 2
            · subst e; show 0 ≤ c.most ∧ c.most ≤ 2305843009213693952; omega
            · exact HL.out j (by omega)
      · have ik : ∀ w : World, (Instr.index 45 (.agg (numA c)) (.int .i64 3)).run Try.prog w = .ok (.agg #[.int .i64 c.slack, .int .i64 2305843009213693952]) w := fun _ => by kernel_rfl
        by_cases q1 : c.slack < 0
        · go_wp2_with fail
          go_ret
          exact ⟨ret_int (cf_no (k := 3) (by omega) (Or.inl q1)).symm, BX.out⟩
        by_cases q2 : 2305843009213693952 < c.slack
        · go_wp2_with fail
          go_ret
          exact ⟨ret_int (cf_no (k := 3) (by omega) (Or.inr q2)).symm, BX.out⟩
        · go_wp2_with fail
          go_roundg (5 - (3 + 1))
          case measure => omega
          case rel =>
            refine ⟨3 + 1, by omega, by go_num, ?_, BG.out⟩
            intro j hj
            by_cases e : j = 3
            · subst e; show 0 ≤ c.slack ∧ c.slack ≤ 2305843009213693952; omega
            · exact HL.out j (by omega)
      · have ik : ∀ w : World, (Instr.index 45 (.agg (numA c)) (.int .i64 4)).run Try.prog w = .ok (.agg #[.int .i64 c.gain, .int .i64 68719476736]) w := fun _ => by kernel_rfl
        by_cases q1 : c.gain < 0
        · go_wp2_with fail
          go_ret
          exact ⟨ret_int (cf_no (k := 4) (by omega) (Or.inl q1)).symm, BX.out⟩
        by_cases q2 : 68719476736 < c.gain
        · go_wp2_with fail
          go_ret
          exact ⟨ret_int (cf_no (k := 4) (by omega) (Or.inr q2)).symm, BX.out⟩
        · go_wp2_with fail
          go_roundg (5 - (4 + 1))
          case measure => omega
          case rel =>
            refine ⟨4 + 1, by omega, by go_num, ?_, BG.out⟩
            intro j hj
            by_cases e : j = 4
            · subst e; show 0 ≤ c.gain ∧ c.gain ≤ 68719476736; omega
            · exact HL.out j (by omega)
    · obtain rfl : k = 5 := by omega
      by_cases q : c.most < c.least
      · go_wp2_with fail
        go_ret
        exact ⟨ret_int (by rw [cf_yes HL.out, if_pos q]), BR.out⟩
      · go_wp2_with fail
        go_ret
        exact ⟨ret_int (by rw [cf_yes HL.out, if_neg (by omega)]), BR.out⟩
end Go.Proofs.Ytmclcoaicngodaa
