/-
  Texts Sl, Vint3, Vint4, Vint5, Fr, Fr7, Reg, Crc, Crc2 in one.
-/
import Derived.Deep.AppendLies
import Derived.Laws.BytesArg
import Derived.Laws.AppendOwnNone
import Derived.Laws.OwnMore
import Derived.OwnWalk
import Derived.ProofKit
import Derived.OpenShut
import Derived.Carry
import Derived.Deep.DrawnRows
import Derived.Deep.Slices
import Derived.Deep.Strs
import Derived.Laws.BitsAllLaws
import Derived.Test.YtlpdhglibgnkoaaGreatP1
namespace Go.Proofs.YtlpdhglibgnkoaaGreat
open Go.RowKit

theorem bthen {w W w' : World} (h1 : Below w.heap.size w W) (h2 : Below W.heap.size W w') : Below w.heap.size w w' := h1.trans (h2.mono h1.size)
theorem bup {B : Nat} {w W w' : World} (h1 : Below B w W) (hB : B ≤ w.heap.size) (h2 : Below W.heap.size W w') : Below B w w' := h1.trans (h2.mono (Nat.le_trans hB h1.size))

/-- Bytes as cells. -/
def u8s (l : List Int) : List Value := l.map (Value.int .u8)
theorem u8s_len (l : List Int) : (u8s l).length = l.length := by simp [u8s]
theorem u8s_app (l r : List Int) : u8s l ++ u8s r = u8s (l ++ r) := by simp [u8s]
theorem u8s_one (l : List Int) : ∀ u ∈ u8s l, u.oneCell' = true := by
  intro u hu; simp only [u8s, List.mem_map] at hu; obtain ⟨n, _, rfl⟩ := hu; rfl
theorem u8s_at (l : List Int) (j : Nat) (h : j < l.length) : (u8s l)[j]? = some (.int .u8 (l.getD j 0)) := by
  simp [u8s, List.getD, List.getElem?_eq_getElem h]

/-- The slice at b, o on reads as these bytes. -/
def At (w : World) (b o : Nat) (l : List Int) : Prop := ∀ i, i < l.length → w.cell? ⟨b, o + i, none⟩ = some (.int .u8 (l.getD i 0))
theorem At.lt {w : World} {b o : Nat} {l : List Int} (h : At w b o l) (hl : l ≠ []) : b < w.heap.size :=
  World.block_lt_of_cell? w ⟨b, o + 0, none⟩ (h 0 (List.length_pos_iff.2 hl))
theorem At.below {w w' : World} {b o B : Nat} {l : List Int} (h : At w b o l) (hb : Below B w w') (hB : b < B) : At w' b o l := fun i hi => (hb.cell (p := ⟨b, o + i, none⟩) hB).trans (h i hi)
theorem At.take {w : World} {b o : Nat} {l : List Int} (h : At w b o l) (n : Nat) : At w b o (l.take n) := fun i hi => by
  rw [List.length_take] at hi
  rw [h i (by omega)]; simp [List.getD, show i < n by omega]
theorem At.drop {w : World} {b o : Nat} {l : List Int} (h : At w b o l) (n : Nat) : At w b (o + n) (l.drop n) := fun i hi => by
  rw [List.length_drop] at hi
  rw [Nat.add_assoc, h (n + i) (by omega)]; simp [List.getD]
theorem At.left {w : World} {b o : Nat} {l r : List Int} (h : At w b o (l ++ r)) : At w b o l := fun i hi => by
  rw [h i (by simp; omega)]; simp [List.getD, List.getElem?_append_left hi]
/-- Appended, by the laws of append. -/
theorem At.news {w : World} {b o : Nat} {l : List Int} (h : At w b o l) : ∀ j u, (u8s l)[j]? = some u → w.cell? ((⟨b, o, none⟩ : Addr).add j) = some u := by
  intro j u hu
  have hj : j < l.length := by have := (List.getElem?_eq_some_iff.1 hu).1; rwa [u8s_len] at this
  rw [u8s_at l j hj] at hu
  rw [Addr.add_lit, h j hj]; exact hu

/-- A value that reads as these bytes. -/
def Rd (w : World) (v : Value) (l : List Int) : Prop :=
  ∃ ao cap, v = .slice ao l.length cap ∧ l.length ≤ cap ∧ cap ≤ 9223372036854775807 ∧ (ao = none → cap = 0) ∧ (l = [] ∨ ∃ b o, ao = some ⟨b, o, none⟩ ∧ At w b o l)
theorem Rd.below {w w' : World} {v : Value} {l : List Int} (h : Rd w v l) (hb : Below w.heap.size w w') : Rd w' v l := by
  obtain ⟨ao, cap, rfl, h1, h2, hn, h3⟩ := h
  refine ⟨ao, cap, rfl, h1, h2, hn, ?_⟩
  rcases h3 with h | ⟨b, o, rfl, h⟩
  · exact Or.inl h
  · by_cases hl : l = []
    · exact Or.inl hl
    · exact Or.inr ⟨b, o, rfl, h.below hb (h.lt hl)⟩

/-- A value that a call owns, of these bytes. -/
def Own (w : World) (B : Nat) (v : Value) (l : List Int) : Prop := w.ownsRow B 5 1 v l.length (u8s l)
theorem Own.form {w : World} {B : Nat} {v : Value} {l : List Int} (h : Own w B v l) (hl : l ≠ []) : ∃ g cap, v = .slice (some ⟨g, 0, none⟩) l.length cap ∧ B ≤ g ∧ g < w.heap.size ∧ l.length ≤ cap ∧ cap ≤ 9223372036854775807 ∧ At w g 0 l := by
  have hp := List.length_pos_iff.2 hl
  rcases h.2 with ⟨_, h0⟩ | ⟨g, cap, cur, hv, hb, hg, hc, hm, hs, ht⟩
  · omega
  · refine ⟨g, cap, hv, hb, (Array.getElem?_eq_some_iff.1 hg).1, hc, hm, fun i hi => ?_⟩
    rw [Nat.zero_add, cell_of_row w g i cur _ (0, 0) hg]
    have e := u8s_at l i hi
    rw [← ht, List.getElem?_take, if_pos (by omega)] at e
    simpa using e
theorem Own.rd {w : World} {B : Nat} {v : Value} {l : List Int} (h : Own w B v l) : Rd w v l := by
  rcases h.2 with ⟨rfl, h0⟩ | ⟨g, cap, cur, hv, hb, hg, hc, hm, hs, ht⟩
  · have : l = [] := List.eq_nil_of_length_eq_zero h0
    subst this
    exact ⟨none, 0, rfl, Nat.le_refl _, by omega, fun _ => rfl, Or.inl rfl⟩
  · by_cases hl : l = []
    · exact ⟨_, cap, hv, hc, hm, fun h => by simp at h, Or.inl hl⟩
    · obtain ⟨g', cap', hv', _, _, h1, h2, h3⟩ := h.form hl
      exact ⟨_, cap', hv', h1, h2, fun h => by simp at h, Or.inr ⟨g', 0, rfl, h3⟩⟩
theorem Own.below {w w' : World} {B : Nat} {v : Value} {l : List Int} (h : Own w B v l) (hb : Below w.heap.size w w') : Own w' B v l := by
  refine ⟨h.1, ?_⟩
  rcases h.2 with hn | ⟨g, cap, cur, hv, hB, hg, rest⟩
  · exact Or.inl hn
  · exact Or.inr ⟨g, cap, cur, hv, hB, (hb.block g (Array.getElem?_eq_some_iff.1 hg).1).trans hg, rest⟩
theorem Own.mono {w : World} {B B' : Nat} {v : Value} {l : List Int} (h : Own w B v l) (hB : B' ≤ B) : Own w B' v l := by
  refine ⟨h.1, ?_⟩
  rcases h.2 with hn | ⟨g, cap, cur, hv, hb, rest⟩
  · exact Or.inl hn
  · exact Or.inr ⟨g, cap, cur, hv, Nat.le_trans hB hb, rest⟩
theorem Own.nil (w : World) (B : Nat) : Own w B (.slice none 0 0) [] := World.ownsRow_nil w B _ _
theorem Own.row {w : World} {B : Nat} {v : Value} {l : List Int} (h : Own w B v l) : ∀ k, v.ownBlock = some k → B ≤ k := fun k hk => (World.ownsRow.lt h k hk).1

theorem info8 : (Tryz.prog.info? 5).map (fun i => (i.zero, i.size, i.bytes)) = some (some (.int .u8 0), 1, 1) := by kernel_rfl

/-- 'string(b)'. -/
theorem str_run {w : World} {v : Value} {l : List Int} (h : Rd w v l) : (convert 32 9 v).run Tryz.prog w = .ok (.string (strOfNums l)) w := by
  obtain ⟨ao, cap, rfl, h1, h2, hn, h3⟩ := h
  by_cases hl : l = []
  · subst hl
    rcases ao with _ | a
    · exact run_convert_bytes_nil w 32 5 Tryz.underlying32 Tryz.underlying5 0 cap 9 Tryz.underlying9
    · rw [run_convert_bytes_string w 32 9 5 _ _ cap Tryz.underlying32 Tryz.underlying5 Tryz.underlying9]
      rw [run_bytesToString w a ([] : List Int).length cap [] (by simp [loadCells, loadCellsFrom])]
      rfl
  · rcases h3 with h | ⟨b, o, rfl, h⟩
    · exact absurd h hl
    · exact run_convert_bytes_arg w 32 5 Tryz.underlying32 Tryz.underlying5 b o l.length cap l rfl h 9 Tryz.underlying9
theorem Rd.at {w : World} {b o cap : Nat} {l : List Int} (h : At w b o l) (hc : l.length ≤ cap) (hm : cap ≤ 9223372036854775807) : Rd w (.slice (some ⟨b, o, none⟩) l.length cap) l :=
  ⟨_, cap, rfl, hc, hm, fun h => by simp at h, Or.inr ⟨b, o, rfl, h⟩⟩
/-- One byte that lies in a new block. -/
theorem Rd.one (w : World) (z : Int) : Rd (w.alloc (.cells #[.int .u8 z] 5)) (.slice (some ⟨w.heap.size, 0, none⟩) 1 1) [z] :=
  Rd.at (l := [z]) (fun i hi => by
    have e : i = 0 := by simpa using hi
    subst e; simp) (by simp) (by omega)

/-- 'append(s, x...)', s the call's own. -/
theorem app_wp {w : World} {ops : Array Oper} {rest : List Oper} {o : Oper} {a : Act} {Q : Exit → Act → World → Prop} (hgd : o.guard = none) (s x : Operand)
    (ho : o.op = .call { callee := .builtin .append, args := #[s, x], argTypes := #[32, 32] })
    (B : Nat) (v : Value) (l : List Int) (hs : a.eval s = v) (hown : Own w B v l) (u : Value) (r : List Int) (hx : a.eval x = u) (hr : Rd w u r) (hlen : l.length + r.length ≤ 140737488355328) (hB : B ≤ w.heap.size)
    (h : ∀ v' w', Own w' B v' (l ++ r) → Below B w w' → wpList Tryz.prog ops Q rest (a.put o.dst v') w') : wpList Tryz.prog ops Q (o :: rest) a w := by
  obtain ⟨i0, hi, hz0, hz1, hz2⟩ := info_parts info8
  obtain ⟨ao, cap, rfl, h1, h2, hn, h3⟩ := hr
  have go : ∀ ad, ao = some ad → (∀ j u, (u8s r)[j]? = some u → w.cell? (ad.add j) = some u) → wpList Tryz.prog ops Q (o :: rest) a w := by
    intro ad had hnews
    subst had
    refine wpList_append_own w hgd s x 32 ho B 5 i0 (.int .u8 0) 1 1 Tryz.underlying32 hi hz0 hz1 hz2 rfl (by decide) v l.length (u8s l) hs hown ad r.length cap (u8s r) hx (by rw [u8s_len, Nat.mul_one]) hnews (u8s_one r) (by unfold maxLen; omega) (by omega) hB ?_
    intro v' w' hown' hgrow _
    refine h v' w' ?_ ((Below.refl B w).grown hgrow hB hown.row)
    unfold Own
    rw [List.length_append, ← u8s_app]
    exact hown'
  rcases ao with _ | ad
  · have hr0 : r = [] := by
      rcases h3 with h | ⟨_, _, h, _⟩
      · exact h
      · simp at h
    subst hr0
    have := hn rfl
    subst this
    refine wpList_append_own_none hgd s x 32 ho B 5 i0 1 Tryz.underlying32 hi v l.length (u8s l) hs hown hx ?_
    refine h v w ?_ (Below.refl _ _)
    rw [List.append_nil]; exact hown
  · rcases h3 with h | ⟨b, o', h, hat⟩
    · subst h
      exact go ad rfl (fun j u hu => by simp [u8s] at hu)
    · injection h with h; subst h
      exact go _ rfl hat.news
theorem Own.len {w : World} {B n cap : Nat} {a : Addr} {l : List Int} (h : Own w B (.slice (some a) n cap) l) : n = l.length := by
  rcases h.2 with ⟨h, _⟩ | ⟨g, cap, cur, h, _⟩
  · simp at h
  · injection h
theorem Own.store {w : World} {B g n cap : Nat} {l : List Int} (h : Own w B (.slice (some ⟨g, 0, none⟩) n cap) l) (j : Nat) (z : Int) : Own (w.setCell ⟨g, j, none⟩ (.int .u8 z)) B (.slice (some ⟨g, 0, none⟩) n cap) (l.set j z) := by
  have e := h.len
  subst e
  have := (World.ownsRow.stored h j (.int .u8 z)).1
  unfold Own
  rw [List.length_set]
  unfold u8s at this ⊢
  rw [List.map_set]; exact this
theorem Own.cell {w : World} {B g n cap : Nat} {l : List Int} (h : Own w B (.slice (some ⟨g, 0, none⟩) n cap) l) (j : Nat) (hj : j < l.length) : w.cell? ⟨g, j, none⟩ = some (.int .u8 (l.getD j 0)) := by
  have e := h.len
  subst e
  rw [World.ownsRow.cellAt h j (by omega), u8s_at l j hj]
theorem Own.free {w : World} {B g n cap : Nat} {l : List Int} (h : Own w B (.slice (some ⟨g, 0, none⟩) n cap) l) (j : Nat) : w.frozen? ⟨g, j, none⟩ = false := by
  have e := h.len
  subst e
  exact World.ownsRow.frozenAt h j
theorem made_u8 (n : Nat) : (madeCells (Value.int .u8 0).cells (n * 1)).toList = u8s (List.replicate n 0) := by
  rw [Nat.mul_one]
  have := toList_madeCells_one (.int .u8 0) n
  unfold u8s
  rw [List.map_replicate]; exact this
theorem make_wp {w : World} {ops : Array Oper} {rest : List Oper} {o : Oper} {a : Act} {Q : Exit → Act → World → Prop} (hgd : o.guard = none) (l c : Operand)
    (ho : o.op = .makeSlice 32 l c) (B n : Nat) (L : Int) (hl : a.eval l = .int .i64 L) (hc : a.eval c = .int .i64 L) (hL : L = (n : Int)) (hn : n ≤ 281474976710656) (hB : B ≤ w.heap.size)
    (h : ∀ w', Own w' B (.slice (some ⟨w.heap.size, 0, none⟩) n n) (List.replicate n 0) → Below w.heap.size w w' → wpList Tryz.prog ops Q rest (a.put o.dst (.slice (some ⟨w.heap.size, 0, none⟩) n n)) w') : wpList Tryz.prog ops Q (o :: rest) a w := by
  obtain ⟨i0, hi, hz0, hz1, hz2⟩ := info_parts info8
  refine wpList_make_full w hgd l c 32 ho B 5 i0 (.int .u8 0) 1 Tryz.underlying32 hi hz0 hz1 .i64 .i64 L L n hl hc hL hL (by rw [hz2]; omega) (by unfold maxLen; omega) hB ?_
  intro w' hown hgrow
  refine h w' ?_ ((Below.refl _ w).grown hgrow (Nat.le_refl _) (fun k hk => by simp at hk))
  unfold Own
  rw [List.length_replicate, ← made_u8]; exact hown
end Go.Proofs.YtlpdhglibgnkoaaGreat

namespace Go.Proofs.YtlpdhglibgnkoaaGreat
open Go.RowKit
set_option maxHeartbeats 400000 in
theorem rput_any (x : Int) (h0 : 0 ≤ x) (h1 : x ≤ 18446744073709551615) (w : World) : Calls Tryz.prog 119 #[.int .u64 x] w fun e w' => ∃ v, e = .returned v ∧ Own w' w.heap.size v (put x) ∧ Below w.heap.size w w' := by
  go_enter Tryz.func119, Tryz.ntmps119
  go_wp2_with fail
  go_loopw [0, 3] (fun y v wr => ∃ (z : Int) (l : List Int), 0 ≤ z ∧ z ≤ x ∧ y = .int .u64 z ∧ Own wr w.heap.size v l ∧ l ++ put z = put x ∧ Below w.heap.size w wr) (fun y _ _ => (intOf y).toNat)
  case atStart => exact ⟨x, [], h0, Int.le_refl _, rfl, Own.nil _ _, rfl, Below.refl _ _⟩
  case round =>
    obtain ⟨z, l, z0, z1, rfl, hown, hl, hb⟩ := hrel
    have hlen : l.length ≤ 10 := by
      have e := congrArg List.length hl
      have := put_ten h0 h1
      rw [List.length_append] at e; omega
    have HL := (show Hid _ from hl); clear hl
    have hB := hb.size
    by_cases hlt : z < 128
    · go_wp2_with (at_builtin; refine app_wp rfl _ _ rfl w.heap.size _ l rfl (by exact hown.below ((Below.refl _ _).alloc (Nat.le_refl _) _)) _ [z] rfl (by exact Rd.one wr z) (by simp; omega) (by simp; omega) ?_; intro v' w1 hown1 hb1)
      go_ret
      refine ⟨_, rfl, ?_, ?_⟩
      · rw [← HL.out, put_lo hlt]; exact hown1
      · exact (hb.alloc hB _).trans hb1
    · go_wp2_with (at_builtin; refine app_wp rfl _ _ rfl w.heap.size _ l rfl (by exact hown.below ((Below.refl _ _).alloc (Nat.le_refl _) _)) _ [128 + z % 128] rfl (by exact Rd.one wr (128 + z % 128)) (by simp; omega) (by simp; omega) ?_; intro v' w1 hown1 hb1)
      go_roundw
      case rel =>
        refine ⟨z / 128, l ++ [128 + z % 128], by omega, by omega, rfl, hown1, ?_, (hb.alloc hB _).trans hb1⟩
        rw [← HL.out, put_hi (x := z) (by omega), List.append_assoc, Int.add_comm 128]; rfl
      case measure => simp [intOf]; omega
theorem pow7 (k : Nat) : (2 : Int) ^ (7 * k) = ((128 ^ k : Nat) : Int) := by
  have : 128 ^ k = 2 ^ (7 * k) := by rw [Nat.pow_mul]
  rw [this]; simp
theorem dig_or (x : Int) (k : Nat) : bits .or .u8 (x / 2 ^ (7 * k) % 256) 128 = x / (128 ^ k : Nat) % 128 + 128 := by
  rw [pow7, Go.Lib.u8_or128_any _ (by omega) (by omega)]; omega
set_option maxHeartbeats 400000 in
theorem put_any (x : Int) (h0 : 0 ≤ x) (h1 : x ≤ 18446744073709551615) (w : World) : Calls Tryz.prog 102 #[.int .u64 x] w fun e w' => ∃ v, e = .returned v ∧ Own w' w.heap.size v (put x) ∧ Below w.heap.size w w' := by
  have n1 := put_pos x
  have n2 := put_ten h0 h1
  obtain ⟨n, hn⟩ : ∃ n, (put x).length = n := ⟨_, rfl⟩
  have HN := (show Hid _ from hn)
  rw [hn] at n1 n2
  clear hn
  go_enter Tryz.func102, Tryz.ntmps102
  go_wp2_with fail
  refine (size_any x h0 h1 _).mono ?_; rw [HN.out]; rintro e w1 ⟨rfl, rfl⟩
  go_wp2_with (at_make; refine make_wp rfl _ _ rfl w1.heap.size n _ rfl rfl rfl (by omega) (Nat.le_refl _) ?_; intro w2 hown hb)
  go_loopw [10] (fun i wr => ∃ k : Nat, k ≤ n ∧ i = .int .i64 k ∧ Own wr w1.heap.size (.slice (some ⟨w1.heap.size, 0, none⟩) n n) (stage x n k) ∧ Below w1.heap.size w1 wr) (fun i _ => n - (intOf i).toNat)
  case atStart => exact ⟨0, Nat.zero_le _, rfl, by rw [stage_zero]; exact hown, hb⟩
  case round =>
    obtain ⟨k, hk, rfl, hO, hB⟩ := hrel
    by_cases hlt : k < n
    · have hc := hO.cell k (by rw [stage_len]; exact hlt)
      have hf := hO.free k
      go_wp2_with fail
      go_roundw
      case rel =>
        refine ⟨k + 1, by omega, by go_num, ?_, hB.setCell (by exact Nat.le_refl _) _⟩
        rw [dig_or x k, ← stage_succ]; exact hO.store k _
      case measure => simp [intOf]; omega
    · obtain rfl : k = n := by omega
      have hc := hO.cell (k - 1) (by rw [stage_len]; omega)
      have hf := hO.free (k - 1)
      go_wp2_with fail
      go_ret
      refine ⟨_, rfl, ?_, hB.setCell (by exact Nat.le_refl _) _⟩
      have e : ((stage x k k)[k - 1]?.getD 0 - 128) % 256 = x / (128 ^ (k - 1) : Nat) % 128 := by
        have := stage_last x k n1
        rw [List.getD_eq_getElem?_getD] at this
        rw [this]; omega
      rw [e, ← stage_end h0 HN.out]; exact hO.store (k - 1) _
end Go.Proofs.YtlpdhglibgnkoaaGreat

namespace Go.Proofs.YtlpdhglibgnkoaaGreat
open Go.RowKit
set_option linter.unusedVariables false
theorem or_step (l : List Int) (k : Nat) (hk : k < l.length) (h9 : k ≤ 9) : bits .or .u64 (val (l.take k)) (IntKind.u64.wrap (l.getD k 0 % 128 * 2 ^ (7 * k))) = val (l.take k) + l.getD k 0 % 128 * (128 ^ k : Nat) % 18446744073709551616 := by
  have h1 := val_take_lt l k (by omega)
  have h0 := val_nn (l.take k)
  have e64 : (2 : Int) ^ 64 = 18446744073709551616 := by decide
  have dv : (2 : Int) ^ (7 * k) ∣ 2 ^ 64 := ⟨2 ^ (64 - 7 * k), by rw [← Int.pow_add]; congr 1; omega⟩
  have p9 : 128 ^ k ≤ 128 ^ 9 := Nat.pow_le_pow_right (by omega) h9
  have n9 : 128 ^ 9 = 9223372036854775808 := by decide
  rw [IntKind.wrap_u64, ← pow7]
  have hx0 : 0 ≤ l.getD k 0 % 128 * 2 ^ (7 * k) % 18446744073709551616 := by omega
  refine bits_join_low .u64 64 (by decide) wraps_u64 (7 * k) _ _ h0 (by rw [pow7]; exact h1) (by rw [e64]; omega) hx0 ?_ (by rw [e64]; omega)
  rw [← e64, Int.emod_emod_of_dvd _ dv, Int.mul_emod_left]
theorem or_next (l : List Int) (k : Nat) (hk : k < l.length) (h9 : k ≤ 9) :
    0 ≤ bits .or .u64 (val (l.take k)) (IntKind.u64.wrap (l.getD k 0 % 128 * 2 ^ (7 * k))) ∧ bits .or .u64 (val (l.take k)) (IntKind.u64.wrap (l.getD k 0 % 128 * 2 ^ (7 * k))) ≤ 18446744073709551615 ∧ (k + 1 ≤ 9 → bits .or .u64 (val (l.take k)) (IntKind.u64.wrap (l.getD k 0 % 128 * 2 ^ (7 * k))) = val (l.take (k + 1))) := by
  have h1 := val_take_lt l k (by omega)
  have h0 := val_nn (l.take k)
  have h2 := val_take l k hk
  have n9 : 128 ^ 9 = 9223372036854775808 := by decide
  rw [or_step l k hk h9]
  have d0 : 0 ≤ l.getD k 0 % 128 ∧ l.getD k 0 % 128 ≤ 127 := by omega
  generalize l.getD k 0 % 128 = d at *
  by_cases h8 : k ≤ 8
  · have h3 := val_take_lt l (k + 1) (by omega)
    have p9 : 128 ^ (k + 1) ≤ 128 ^ 9 := Nat.pow_le_pow_right (by omega) (by omega)
    have hn : 0 ≤ d * ((128 ^ k : Nat) : Int) := Int.mul_nonneg d0.1 (by omega)
    rw [Int.mul_comm] at h2
    rw [h2] at h3 ⊢
    generalize d * ((128 ^ k : Nat) : Int) = m at *
    rw [n9] at p9
    generalize 128 ^ (k + 1) = q at *
    refine ⟨by omega, by omega, fun _ => by omega⟩
  · have e : k = 9 := by omega
    subst e
    rw [n9] at h1 ⊢
    refine ⟨by omega, by omega, fun h => by omega⟩
theorem got_at (l : List Int) (k : Nat) (hk : k < l.length) (h9 : k ≤ 9) (ha : ∀ j, j < k → 128 ≤ l.getD j 0) (hlo : l.getD k 0 < 128) :
    got l = if 18446744073709551616 ≤ val (l.take (k + 1)) then (0, 0, 8) else if 0 < k ∧ l.getD k 0 = 0 then (0, 0, 7) else (val (l.take (k + 1)), (k : Int) + 1, 0) := by
  have hl := lead_is l k ha hk hlo
  have hne : l ≠ [] := by intro h; rw [h] at hk; simp at hk
  unfold got
  rw [hl, if_neg hne, if_neg (by omega), if_neg (by omega)]
theorem got_ends (l : List Int) (k : Nat) (hk : k < l.length) (h9 : k ≤ 9) (ha : ∀ j, j < k → 128 ≤ l.getD j 0) (hb : Bytes l) (hlo : l.getD k 0 < 128) :
    endedI (bits .or .u64 (val (l.take k)) (IntKind.u64.wrap (l.getD k 0 % 128 * 2 ^ (7 * k)))) ((k : Int) + 1) (l.getD k 0) = got l := by
  have h1 := val_take_lt l k (by omega)
  have h0 := val_nn (l.take k)
  have h2 := val_take l k hk
  have hc := hb.at k
  have n9 : 128 ^ 9 = 9223372036854775808 := by decide
  obtain ⟨_, _, hn⟩ := or_next l k hk h9
  have hs := or_step l k hk h9
  have G := got_at l k hk h9 ha hlo
  by_cases h8 : k ≤ 8
  · have h3 := val_take_lt l (k + 1) (by omega)
    have p9 : 128 ^ (k + 1) ≤ 128 ^ 9 := Nat.pow_le_pow_right (by omega) (by omega)
    have hlt : val (l.take (k + 1)) < 9223372036854775808 := by
      rw [n9] at p9
      generalize 128 ^ (k + 1) = q at *
      omega
    rw [if_neg (by omega)] at G
    rw [hn (by omega), G]
    unfold endedI
    rw [if_neg (by omega)]
    by_cases hz : 0 < k ∧ l.getD k 0 = 0
    · rw [if_pos hz, if_pos (by omega)]
    · rw [if_neg hz, if_neg (by omega)]
  · have e : k = 9 := by omega
    subst e
    rw [n9] at h1 h2 hs
    rw [hs, G, h2]
    clear hs hn G h2
    generalize l.getD 9 0 = c at *
    generalize val (l.take 9) = v at *
    unfold endedI
    by_cases h2' : 2 ≤ c
    · rw [if_pos ⟨by omega, h2'⟩, if_pos (by omega)]
    · rw [if_neg (by omega)]
      by_cases hz : c = 0
      · subst hz
        rw [if_pos (by omega), if_neg (by omega), if_pos (by omega)]
      · have : c = 1 := by omega
        subst this
        rw [if_neg (by omega), if_neg (by omega), if_neg (by omega)]
        congr 1
theorem got_open (l : List Int) (hl : l ≠ []) (k : Nat) (hk : k ≤ l.length) (hk10 : k ≤ 10) (hend : ¬(k < l.length ∧ k < 10)) (ha : ∀ j, j < k → 128 ≤ l.getD j 0) :
    got l = if l.length < 10 then (0, 0, 6) else (0, 0, 8) := by
  have h := lead_all l k ha hk
  have hle := lead_le l
  unfold got
  rw [if_neg hl]
  by_cases h10 : l.length < 10
  · rw [if_pos h10, if_neg (by omega), if_pos (by omega)]
  · rw [if_neg h10, if_pos (by omega)]
set_option maxHeartbeats 400000 in
theorem get_at (b o cap : Nat) (l : List Int) (hb : Bytes l) (hl : l ≠ []) (hc : l.length ≤ cap) (hm : cap ≤ 9223372036854775807) (w : World) (hat : At w b o l) :
    Calls Tryz.prog 156 #[.slice (some ⟨b, o, none⟩) l.length cap] w fun e w' => e = .returned (.tuple #[.int .u64 (got l).1, .int .i64 (got l).2.1, .int .i64 (got l).2.2]) ∧ w' = w := by
  have n1 := List.length_pos_iff.2 hl
  obtain ⟨r, hr⟩ : ∃ r, got l = r := ⟨_, rfl⟩
  rw [hr]
  have HR := (show Hid _ from hr); clear hr
  obtain ⟨n, hn⟩ : ∃ n, l.length = n := ⟨_, rfl⟩
  have HN := (show Hid _ from hn)
  rw [hn] at n1 hc ⊢
  have ht : ∀ i, i < n → w.cell? ⟨b, o + i, none⟩ = some (.int .u8 (l.getD i 0)) := fun i hi => hat i (by rw [hn]; exact hi)
  have HB := (show Hid _ from hb)
  clear hn hl hat hb
  go_enter Tryz.func156, Tryz.ntmps156
  go_wp2_with fail
  go_loop [13, 5] (fun i y => ∃ (k : Nat) (v : Int), k ≤ n ∧ k ≤ 10 ∧ i = .int .i64 k ∧ y = .int .u64 v ∧ 0 ≤ v ∧ v ≤ 18446744073709551615 ∧ (k ≤ 9 → v = val (l.take k)) ∧ ∀ j, j < k → 128 ≤ l.getD j 0) (fun i _ => 10 - (intOf i).toNat)
  case atStart => exact ⟨0, 0, Nat.zero_le _, Nat.zero_le _, rfl, rfl, by omega, by omega, fun _ => by simp [val], fun j hj => by omega⟩
  case round =>
    obtain ⟨k, v, hk, hk10, rfl, rfl, v0, v1, hv, ha⟩ := hrel
    have HV := (show Hid _ from hv)
    have HA := (show Hid _ from ha)
    clear hv ha
    by_cases hlt : k < n ∧ k < 10
    · obtain ⟨hlt, hlt10⟩ := hlt
      obtain ⟨c, hcc⟩ : ∃ c, l.getD k 0 = c := ⟨_, rfl⟩
      have hcell := ht k hlt
      rw [hcc] at hcell
      have c0 := Bytes.at HB.out k
      rw [hcc] at c0
      obtain ⟨c0, c1⟩ := c0
      have HC := (show Hid _ from hcc)
      have HT := (show Hid _ from ht)
      clear hcc ht
      by_cases hlo : c < 128
      · have HG := (show Hid _ from got_ends l k (by rw [HN.out]; exact hlt) (by omega) HA.out HB.out (by rw [HC.out]; exact hlo))
        rw [← HV.out (by omega), HC.out, HR.out] at HG
        go_wp2_with fail
        refine (ended_any _ ((k : Int) + 1) c (by omega) (by omega) _).mono ?_; rw [HG.out]; rintro e w1 ⟨rfl, rfl⟩
        go_wp2_with fail
        go_ret3
        exact ⟨rfl, rfl⟩
      · go_wp2_with fail
        go_round
        case rel =>
          have ho := or_next l k (by rw [HN.out]; exact hlt) (by omega)
          rw [← HV.out (by omega), HC.out] at ho
          obtain ⟨o1, o2, o3⟩ := ho
          refine ⟨k + 1, _, by omega, by omega, by go_num, rfl, o1, o2, o3, fun j hj => ?_⟩
          by_cases hj' : j < k
          · exact HA.out j hj'
          · obtain rfl : j = k := by omega
            rw [HC.out]; omega
        case measure => simp [intOf]; omega
    · have hG := got_open l (by intro h; rw [h] at HN; have := HN.out; simp at this; omega) k (by rw [HN.out]; exact hk) hk10 (by rw [HN.out]; exact hlt) HA.out
      rw [HR.out, HN.out] at hG
      by_cases h10 : n < 10
      · rw [if_pos h10] at hG
        subst hG
        go_wp2_with fail
        go_ret3
        exact ⟨rfl, rfl⟩
      · rw [if_neg h10] at hG
        subst hG
        go_wp2_with fail
        go_ret3
        exact ⟨rfl, rfl⟩
theorem get_none (ao : Option Addr) (cap : Nat) (w : World) :
    Calls Tryz.prog 156 #[.slice ao 0 cap] w fun e w' => e = .returned (.tuple #[.int .u64 0, .int .i64 0, .int .i64 5]) ∧ w' = w := by
  go_enter Tryz.func156, Tryz.ntmps156
  go_wp2_with fail
  go_ret3
  exact ⟨rfl, rfl⟩
theorem get_any (v : Value) (l : List Int) (hb : Bytes l) (w : World) (h : Rd w v l) :
    Calls Tryz.prog 156 #[v] w fun e w' => e = .returned (.tuple #[.int .u64 (got l).1, .int .i64 (got l).2.1, .int .i64 (got l).2.2]) ∧ w' = w := by
  obtain ⟨ao, cap, rfl, h1, h2, hn, h3⟩ := h
  by_cases hl : l = []
  · subst hl; exact get_none ao cap w
  · rcases h3 with h | ⟨b, o, rfl, h⟩
    · exact absurd h hl
    · exact get_at b o cap l hb hl h1 h2 w h
end Go.Proofs.YtlpdhglibgnkoaaGreat

namespace Go.Proofs.YtlpdhglibgnkoaaGreat
open Go.RowKit
set_option linter.unusedVariables false
set_option maxHeartbeats 400000 in
theorem rget_at (b o cap : Nat) (l : List Int) (hb : Bytes l) (hl : l ≠ []) (hc : l.length ≤ cap) (hm : cap ≤ 9223372036854775807) (w : World) (hat : At w b o l) :
    Calls Tryz.prog 93 #[.slice (some ⟨b, o, none⟩) l.length cap] w fun e w' => e = .returned (.tuple #[.int .u64 (got l).1, .int .i64 (got l).2.1, .int .i64 (got l).2.2]) ∧ w' = w := by
  have n1 := List.length_pos_iff.2 hl
  obtain ⟨r, hr⟩ : ∃ r, got l = r := ⟨_, rfl⟩
  rw [hr]
  have HR := (show Hid _ from hr); clear hr
  obtain ⟨n, hn⟩ : ∃ n, l.length = n := ⟨_, rfl⟩
  have HN := (show Hid _ from hn)
  rw [hn] at n1 hc ⊢
  have ht : ∀ i, i < n → w.cell? ⟨b, o + i, none⟩ = some (.int .u8 (l.getD i 0)) := fun i hi => hat i (by rw [hn]; exact hi)
  have HB := (show Hid _ from hb)
  clear hn hat hb
  go_enter Tryz.func93, Tryz.ntmps93
  go_wp2_with fail
  go_loop [5] (fun i => ∃ (k : Nat), k ≤ n ∧ k ≤ 10 ∧ i = .int .i64 k ∧ ∀ j, j < k → 128 ≤ l.getD j 0) (fun i => 10 - (intOf i).toNat)
  case atStart => exact ⟨0, Nat.zero_le _, Nat.zero_le _, rfl, fun j hj => by omega⟩
  case round =>
    obtain ⟨k, hk, hk10, rfl, ha⟩ := hrel
    have HA := (show Hid _ from ha)
    have HT := (show Hid _ from ht)
    clear ha ht
    by_cases hlt : k < n ∧ k < 10
    · obtain ⟨hlt, hlt10⟩ := hlt
      obtain ⟨c, hcc⟩ : ∃ c, l.getD k 0 = c := ⟨_, rfl⟩
      have hcell := HT.out k hlt
      rw [hcc] at hcell
      have c0 := Bytes.at HB.out k
      rw [hcc] at c0
      obtain ⟨c0, c1⟩ := c0
      have HC := (show Hid _ from hcc)
      clear hcc
      by_cases hlo : 127 < c
      · go_wp2_with fail
        go_round
        case rel =>
          refine ⟨k + 1, by omega, by omega, by go_num, fun j hj => ?_⟩
          by_cases hj' : j < k
          · exact HA.out j hj'
          · obtain rfl : j = k := by omega
            show 128 ≤ l.getD j 0
            rw [HC.out]; omega
        case measure => simp [intOf]; omega
      · have hn10 : ¬ k = 10 := by omega
        have hnn : ¬ k = n := by omega
        have hG := got_at l k (by rw [HN.out]; exact hlt) (by omega) HA.out (by rw [HC.out]; omega)
        rw [HR.out, HC.out] at hG
        have HG := (show Hid _ from hG)
        clear hG
        have htk : (l.take (k + 1)).length = k + 1 := List.length_take_of_le (by rw [HN.out]; omega)
        have HTK := (show Hid _ from htk)
        clear htk
        go_wp2_with fail
        go_loop [7, 6] (fun i y => ∃ (m : Nat) (v : Int), m ≤ k + 1 ∧ i = .int .i64 ((m : Int) - 1) ∧ y = .int .u64 v ∧ 0 ≤ v ∧ v ≤ 18446744073709551615 ∧ v = val ((l.take (k + 1)).drop m)) (fun i _ => (intOf i + 1).toNat)
        case atStart =>
          refine ⟨k + 1, 0, Nat.le_refl _, by go_num, rfl, by omega, by omega, ?_⟩
          rw [List.drop_of_length_le (by rw [HTK.out]; omega)]; rfl
        case round =>
          obtain ⟨m, v, hm1, rfl, rfl, v0, v1, hv⟩ := hrel
          have HV := (show Hid _ from hv)
          clear hv
          rcases m with _ | m
          · have hv := HV.out
            rw [List.drop_zero] at hv
            have hG := HG.out
            rw [← hv, if_neg (by omega)] at hG
            by_cases hz : 0 < k ∧ c = 0
            · rw [if_pos hz] at hG
              obtain ⟨hz1, rfl⟩ := hz
              subst hG
              clear hv
              go_wp2_with fail
              go_ret3
              exact ⟨ret_three rfl (by first | rfl | omega) rfl, rfl⟩
            · rw [if_neg hz] at hG
              subst hG
              clear hv
              by_cases hk0 : 0 < k
              · have hc0 : ¬ c = 0 := fun h => hz ⟨hk0, h⟩
                go_wp2_with fail
                go_ret3
                exact ⟨ret_three rfl (by first | rfl | omega) rfl, rfl⟩
              · obtain rfl : k = 0 := by omega
                go_wp2_with fail
                go_ret3
                exact ⟨ret_three rfl (by first | rfl | omega) rfl, rfl⟩
          · have hcm := HT.out m (by omega)
            obtain ⟨d, hdd⟩ : ∃ d, l.getD m 0 = d := ⟨_, rfl⟩
            rw [hdd] at hcm
            have d0 := Bytes.at HB.out m
            rw [hdd] at d0
            obtain ⟨d0, d1⟩ := d0
            have HD := (show Hid _ from hdd)
            clear hdd
            have hge : (0 : Int) ≤ ((m + 1 : Nat) : Int) - 1 := by omega
            by_cases hov : 144115188075855871 < v
            · have hover := val_over (l.take (k + 1)) m (by rw [HTK.out]; omega) (by rw [← HV.out]; exact hov)
              have hG := HG.out
              rw [if_pos hover] at hG
              subst hG
              clear hover
              go_wp2_with fail
              go_ret3
              exact ⟨ret_three rfl (by first | rfl | omega) rfl, rfl⟩
            · go_wp2_with fail
              go_round
              case rel =>
                refine ⟨m, _, by omega, rfl, rfl, by omega, by omega, ?_⟩
                have h := val_at (l.take (k + 1)) m (by rw [HTK.out]; omega)
                rw [h, ← HV.out]
                have e : (l.take (k + 1)).getD m 0 = d := by rw [← HD.out]; simp [List.getD, show m < k + 1 by omega]
                rw [e]; omega
              case measure => simp [intOf]
    · have hG := got_open l hl k (by rw [HN.out]; exact hk) hk10 (by rw [HN.out]; exact hlt) HA.out
      rw [HR.out, HN.out] at hG
      by_cases h10 : k = 10
      · subst h10
        rw [if_neg (by omega)] at hG
        subst hG
        go_wp2_with fail
        go_ret3
        exact ⟨rfl, rfl⟩
      · have : k = n := by omega
        subst this
        rw [if_pos (by omega)] at hG
        subst hG
        go_wp2_with fail
        go_ret3
        exact ⟨rfl, rfl⟩
theorem rget_none (ao : Option Addr) (cap : Nat) (w : World) :
    Calls Tryz.prog 93 #[.slice ao 0 cap] w fun e w' => e = .returned (.tuple #[.int .u64 0, .int .i64 0, .int .i64 5]) ∧ w' = w := by
  go_enter Tryz.func93, Tryz.ntmps93
  go_wp2_with fail
  go_ret3
  exact ⟨rfl, rfl⟩
theorem rget_any (v : Value) (l : List Int) (hb : Bytes l) (w : World) (h : Rd w v l) :
    Calls Tryz.prog 93 #[v] w fun e w' => e = .returned (.tuple #[.int .u64 (got l).1, .int .i64 (got l).2.1, .int .i64 (got l).2.2]) ∧ w' = w := by
  obtain ⟨ao, cap, rfl, h1, h2, hn, h3⟩ := h
  by_cases hl : l = []
  · subst hl; exact rget_none ao cap w
  · rcases h3 with h | ⟨b, o, rfl, h⟩
    · exact absurd h hl
    · exact rget_at b o cap l hb hl h1 h2 w h
end Go.Proofs.YtlpdhglibgnkoaaGreat

namespace Go.Proofs.YtlpdhglibgnkoaaGreat
open Go.ChangeShapes Go.WideShapes Go.ChangeAt Go.RowKit
variable {H : Type} {enc : TypeId × Value → H}

/-- A value that reads as these numbers of 64 bits. -/
def Rd64 (w : World) (v : Value) (l : List Int) : Prop :=
  ∃ ao cap, v = .slice ao l.length cap ∧ l.length ≤ cap ∧ cap ≤ 9223372036854775807 ∧ (l = [] ∨ ∃ b o, ao = some ⟨b, o, none⟩ ∧ ∀ i, i < l.length → w.cell? ⟨b, o + i, none⟩ = some (.int .u64 (l.getD i 0)))

theorem wf_u8 {n : Int} (h : (Lit.int .u8 n).wf = true) : 0 ≤ n ∧ n ≤ 255 := bounds_u8 h
theorem wf_i64 {n : Int} (h : (Lit.int .i64 n).wf = true) : -9223372036854775808 ≤ n ∧ n ≤ 9223372036854775807 := bounds_i64 h

theorem open_slice {P : Program} {k : IntKind} {t e : TypeId} {W : World} {base : Nat} {v : Value} {d : DataW H} {p : List MemPlace} (ht : P.underlying t = some (.slice e)) (he : P.underlying e = some (.int k)) (hc : P.cellsOf e = 1)
    (hval : Value.okWide P W .any base t v) (h : DataW.Trod enc P W 0 (fun _ => true) true t v d p) :
    ∃ (l : List Int) (ao : Option Addr) (cap : Nat), v = .slice ao l.length cap ∧ l.length ≤ cap ∧ cap ≤ 9223372036854775807 ∧ (ao = none → cap = 0) ∧ (∀ n ∈ l, (Lit.int k n).wf = true) ∧
      (l = [] ∨ ∃ b o, ao = some ⟨b, o, none⟩ ∧ ∀ i, i < l.length → W.cell? ⟨b, o + i, none⟩ = some (.int k (l.getD i 0))) := by
  obtain ⟨a1, len, cap, rfl⟩ := okWide_slice ht hval
  obtain ⟨fuel, hf⟩ := h
  rcases open_ints ht he hc hf with ⟨hcs, hx⟩ | ⟨a, len', cap', zs, hcs, _, hl, hm, hz, hx, hcell, hwz⟩
  · simp [Value.cells] at hcs
    obtain ⟨rfl, rfl, rfl⟩ := hcs
    exact ⟨[], none, 0, rfl, Nat.le_refl _, by omega, fun _ => rfl, fun n hn => by simp at hn, Or.inl rfl⟩
  · simp [Value.cells] at hcs
    obtain ⟨rfl, rfl, rfl⟩ := hcs
    simp only [if_true] at hz
    have hlen : (zs.take len).length = len := List.length_take_of_le (by omega)
    refine ⟨zs.take len, some a, cap, by rw [hlen], by omega, hm, fun h => by simp at h, fun n hn => hwz n (List.mem_of_mem_take hn), ?_⟩
    by_cases h0 : len = 0
    · left; rw [h0]; rfl
    · right
      obtain ⟨ab, ao, spot⟩ := a
      have hspot : spot = none := by simpa [Addr.add] using World.cell?_spot (hcell 0 (by omega))
      subst hspot
      refine ⟨ab, ao, rfl, fun i hi => ?_⟩
      rw [hlen] at hi
      have := hcell i (by omega)
      rw [Addr.add_lit] at this
      rw [this]; simp [List.getD, hi]
theorem post_of_below {P : Program} {f : Func} {s : ChangeSpec} {apart fresh handsOn : Bool} {W W' : World} {args : Array Value} {v : Value} {ds gs : List (DataW H)} {before pa pv : List MemPlace}
    (hW : DataW.Whole enc P f.params.toList s.vars apart W args.toList ds gs before)
    (hres : ∀ (b : Nat) (sp : Nat → Bool) (hd : Bool), DataW.TrodAll enc P W' b sp hd f.resultTypes.toList (v.resultList f.resultTypes.size) (s.fn H (ds ++ gs)).results [])
    (hargs : DataW.TrodAll enc P W' 0 (fun b => decide (b < W.heap.size)) true f.params.toList args.toList (s.fn H (ds ++ gs)).args pa)
    (hvars : DataW.TrodVars enc P W' (fun b => decide (b < W.heap.size)) s.vars (s.fn H (ds ++ gs)).vars pv)
    (hb : Below W.heap.size W W') : s.post enc P f apart fresh handsOn false W args v W' :=
  ⟨ds, gs, before, [], pa, pv, hW, hres _ _ _, hargs, hvars, hb.frame _, fun h => by cases h⟩
theorem laidOut : laidOutB Tryz.prog = true := by kernel_rfl
end Go.Proofs.YtlpdhglibgnkoaaGreat

namespace Go.Proofs.YtlpdhglibgnkoaaGreat
open Go.ChangeShapes Go.WideShapes Go.ChangeAt Go.RowKit
variable {H : Type} {enc : TypeId × Value → H}

/-- A value that reads as these numbers of 64 bits, of either sign. -/
def RdI (w : World) (v : Value) (l : List Int) : Prop :=
  ∃ ao cap, v = .slice ao l.length cap ∧ l.length ≤ cap ∧ cap ≤ 9223372036854775807 ∧ (l = [] ∨ ∃ b o, ao = some ⟨b, o, none⟩ ∧ ∀ i, i < l.length → w.cell? ⟨b, o + i, none⟩ = some (.int .i64 (l.getD i 0)))
/-- A value that reads as these calls: number i is of kind (A i).1, with (A i).2.1 and (A i).2.2. -/
def RdA (w : World) (v : Value) (n : Nat) (A : Nat → Int × Int × Int) : Prop :=
  ∃ ao cap, v = .slice ao n cap ∧ n ≤ cap ∧ cap ≤ 9223372036854775807 ∧ (n = 0 ∨ ∃ b o, ao = some ⟨b, o, none⟩ ∧
    ∀ i, i < n → w.cell? ⟨b, o + i * 3, none⟩ = some (.int .i64 (A i).1) ∧ w.cell? ⟨b, o + i * 3 + 1, none⟩ = some (.int .u64 (A i).2.1) ∧ w.cell? ⟨b, o + i * 3 + 2, none⟩ = some (.int .u8 (A i).2.2))
theorem RdA.below {w w' : World} {v : Value} {n : Nat} {A : Nat → Int × Int × Int} (h : RdA w v n A) (hb : Below w.heap.size w w') : RdA w' v n A := by
  obtain ⟨ao, cap, rfl, h1, h2, h3⟩ := h
  refine ⟨ao, cap, rfl, h1, h2, ?_⟩
  rcases h3 with h | ⟨b, o, rfl, h⟩
  · exact Or.inl h
  · refine Or.inr ⟨b, o, rfl, fun i hi => ?_⟩
    obtain ⟨c0, c1, c2⟩ := h i hi
    have hlt := World.block_lt_of_cell? w _ c0
    exact ⟨(hb.cell (p := ⟨b, o + i * 3, none⟩) hlt).trans c0, (hb.cell (p := ⟨b, o + i * 3 + 1, none⟩) hlt).trans c1, (hb.cell (p := ⟨b, o + i * 3 + 2, none⟩) hlt).trans c2⟩
end Go.Proofs.YtlpdhglibgnkoaaGreat

namespace Go.Proofs.YtlpdhglibgnkoaaGreat
open Go.RowKit
theorem take_to {P : Program} {md : Region.Mode} {ops : Array Oper} {Q : Exit → Act → World → Prop} {i : Nat} {oi : Oper} {d : Option Nat} {v : Value} {fuel : Nat} {listed : Array Bool} {a : Act} {w : World} (hi : ops[i]? = some oi) (hd : oi.dst = d)
    (hs : Region.noSelect ops = true) (hf : Region.free md ops listed i = true) (hr : (Region.ready md ops listed).contains i = true)
    (hQ : ∀ c a w, Q (.panic c) (a.put d v) w → Q (.panic c) a w) (hy : Yields P ops oi v a)
    (h : wpAny P md ops Q fuel (listed.setIfInBounds i true) (a.put d v) w) : wpAny P md ops Q (fuel + 1) listed a w := by
  subst hd; exact wpAny_take hi hs hf hr hQ hy h
end Go.Proofs.YtlpdhglibgnkoaaGreat

namespace Go.Proofs.YtlpdhglibgnkoaaGreat
open Go.RowKit

/-- What each bit of a byte makes of s. -/
def half (s : Nat) : Nat := if s % 2 = 1 then s / 2 ^^^ 3988292384 else s / 2
/-- n of them. -/
def halfs : Nat → Nat → Nat
  | 0, s => s
  | n + 1, s => half (halfs n s)
/-- What a byte does. -/
def eat (s : Nat) (c : Int) : Nat := halfs 8 (s ^^^ c.toNat)
/-- What bytes do. -/
def eats (s : Nat) (l : List Int) : Nat := l.foldl eat s
/-- The sum goes on. -/
def more (s : Nat) (l : List Int) : Nat := 4294967295 ^^^ eats (4294967295 ^^^ s) l
/-- The sum. -/
def sum (l : List Int) : Nat := more 0 l
/-- Its bytes, the highest first. -/
def four (s : Nat) : List Int := [((s / 16777216 % 256 : Nat) : Int), ((s / 65536 % 256 : Nat) : Int), ((s / 256 % 256 : Nat) : Int), ((s % 256 : Nat) : Int)]

theorem xor_lt {a b : Nat} (ha : a < 4294967296) (hb : b < 4294967296) : a ^^^ b < 4294967296 := Nat.xor_lt_two_pow (n := 32) ha hb
theorem half_lt {s : Nat} (h : s < 4294967296) : half s < 4294967296 := by
  unfold half; split
  · exact xor_lt (by omega) (by omega)
  · omega
theorem halfs_lt {s : Nat} (h : s < 4294967296) : ∀ n, halfs n s < 4294967296
  | 0 => h
  | n + 1 => half_lt (halfs_lt h n)
theorem eat_lt {s : Nat} {c : Int} (h : s < 4294967296) (hc : 0 ≤ c ∧ c ≤ 255) : eat s c < 4294967296 := halfs_lt (xor_lt h (by omega)) 8
theorem eats_lt {l : List Int} (hb : Bytes l) : ∀ {s : Nat}, s < 4294967296 → eats s l < 4294967296 := by
  induction l with
  | nil => intro s h; exact h
  | cons c l ih => intro s h; exact ih (Bytes.cons.1 hb).2 (eat_lt h (Bytes.cons.1 hb).1)
theorem more_lt {s : Nat} {l : List Int} (h : s < 4294967296) (hb : Bytes l) : more s l < 4294967296 := xor_lt (by omega) (eats_lt hb (xor_lt (by omega) h))
theorem sum_lt {l : List Int} (hb : Bytes l) : sum l < 4294967296 := more_lt (by omega) hb

theorem eats_append (s : Nat) (l r : List Int) : eats s (l ++ r) = eats (eats s l) r := List.foldl_append ..
theorem eats_snoc (s : Nat) (l : List Int) (k : Nat) (h : k < l.length) : eats s (l.take (k + 1)) = eat (eats s (l.take k)) (l.getD k 0) := by
  have e : l.take (k + 1) = l.take k ++ [l.getD k 0] := by
    rw [List.take_add_one, List.getElem?_eq_getElem h]; simp [List.getD, h]
  rw [e, eats_append]; rfl

/-! no two become one -/
/-! what lies behind the first byte waits -/
/-- Four bytes as one number. -/
def quad (a b c d : Int) : Nat := ((a.toNat ^^^ 256 * b.toNat) ^^^ 65536 * c.toNat) ^^^ 16777216 * d.toNat
end Go.Proofs.YtlpdhglibgnkoaaGreat

namespace Go.Proofs.YtlpdhglibgnkoaaGreat
open Go.RowKit

theorem x32 (a b : Nat) (ha : a < 4294967296) (hb : b < 4294967296) : bits .xor .u32 (a : Int) (b : Int) = ((a ^^^ b : Nat) : Int) := u32_xor_nat a b ha hb
theorem halved_x (s : Nat) (h : s < 4294967296) : bits .xor .u32 ((s : Int) / 2) 3988292384 = ((s / 2 ^^^ 3988292384 : Nat) : Int) := by
  rw [show (s : Int) / 2 = ((s / 2 : Nat) : Int) by omega]
  exact x32 (s / 2) 3988292384 (by omega) (by omega)
theorem halved_any (s : Nat) (h : s < 4294967296) (w : World) : Calls Tryz.prog 152 #[.int .u32 (s : Int)] w fun e w' => e = .returned (.int .u32 ((half s : Nat) : Int)) ∧ w' = w := by
  have hX := (show Hid _ from halved_x s h)
  obtain ⟨r, hr⟩ : ∃ r, half s = r := ⟨_, rfl⟩
  rw [hr]
  have HR := (show Hid _ from hr); clear hr
  go_enter Tryz.func152, Tryz.ntmps152
  go_wp2
  · go_ret
    have ho : ((s : Int) % 2 == 1) = true := by assumption
    simp at ho
    refine ⟨ret_int ?_, rfl⟩
    rw [hX.out, ← HR.out]; unfold half; rw [if_pos (by omega)]
  · go_ret
    have ho : ((s : Int) % 2 == 1) = false := by assumption
    simp at ho
    refine ⟨ret_int ?_, rfl⟩
    rw [← HR.out]; unfold half; rw [if_neg (by omega)]; omega
theorem byte_x (s : Nat) (c : Int) (hs : s < 4294967296) (hc : 0 ≤ c ∧ c ≤ 255) : bits .xor .u32 (s : Int) c = ((s ^^^ c.toNat : Nat) : Int) := by
  have := x32 s c.toNat hs (by omega)
  rwa [show ((c.toNat : Nat) : Int) = c by omega] at this
/-- The block of the sum. -/
def Sm (w : World) (B : Nat) (s : Nat) : Prop := w.heap[B]? = some (.cells #[.int .u32 (s : Int)] 168 (0, 0))
theorem Sm.cell {w : World} {B s : Nat} (h : Sm w B s) : w.cell? ⟨B, 0, none⟩ = some (.int .u32 (s : Int)) := cell_of_one h
theorem Sm.free {w : World} {B s : Nat} (h : Sm w B s) : w.frozen? ⟨B, 0, none⟩ = false := free_of_one h
theorem Sm.set {w : World} {B s : Nat} (h : Sm w B s) (t : Nat) : Sm (w.setCell ⟨B, 0, none⟩ (.int .u32 (t : Int))) B t := one_setCell h
theorem Sm.lt {w : World} {B s : Nat} (h : Sm w B s) : B < w.heap.size := lt_of_block h
set_option maxHeartbeats 400000 in
theorem take_any (s : Nat) (hs : s < 4294967296) (c : Int) (hc : 0 ≤ c ∧ c ≤ 255) (B : Nat) (w : World) (hv : Sm w B s) :
    Calls Tryz.prog 151 #[.int .u8 c, .pointer (some ⟨B, 0, none⟩)] w fun e w' => e = .returned (.tuple #[]) ∧ Sm w' B (eat s c) ∧ Below B w w' := by
  have HX := (show Hid _ from byte_x s c hs hc)
  have hl := xor_lt hs (show c.toNat < 4294967296 by omega)
  obtain ⟨x, hx⟩ : ∃ x, s ^^^ c.toNat = x := ⟨_, rfl⟩
  have HE : Hid (eat s c = halfs 8 x) := by rw [← hx]; exact rfl
  rw [hx] at hl HX
  clear hx
  have h1 := hv.cell
  have h2 := hv.free
  have HV : Hid (Sm w B s) := hv
  clear hv
  go_enter Tryz.func151, Tryz.ntmps151
  go_wp2_with fail
  rw [HX.out]
  go_loopw [7] (fun i wr => ∃ k : Nat, k ≤ 8 ∧ i = .int .i64 k ∧ Sm wr B (halfs k x) ∧ Below B w wr) (fun i _ => 8 - (intOf i).toNat)
  case atStart => exact ⟨0, Nat.zero_le _, rfl, Sm.set HV.out x, (Below.refl B w).setCell (Nat.le_refl _) _⟩
  case round =>
    obtain ⟨k, hk, rfl, hS, hB⟩ := hrel
    have HS : Hid (Sm wr B (halfs k x)) := hS
    have c1 := hS.cell
    have c2 := hS.free
    clear hS
    by_cases hlt : k < 8
    · go_wp2_with fail
      refine (halved_any _ (halfs_lt hl k) _).mono ?_; rintro e w1 ⟨rfl, rfl⟩
      go_wp2_with fail
      go_roundw
      case rel => exact ⟨k + 1, by omega, by go_num, Sm.set HS.out _, hB.setCell (Nat.le_refl _) _⟩
      case measure => simp [intOf]; omega
    · obtain rfl : k = 8 := by omega
      go_wp2_with fail
      go_end0
      exact ⟨rfl, by rw [HE.out]; exact HS.out, hB⟩
end Go.Proofs.YtlpdhglibgnkoaaGreat
