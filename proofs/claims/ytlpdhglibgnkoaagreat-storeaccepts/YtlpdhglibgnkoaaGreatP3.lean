/-
  Texts Crc3, Crc4, Crc5 in one.
-/
import Derived.Lib.AppendZerosOnto
import Derived.Lib.SlBytesConst
import Derived.Lib.SmallJoins
import Derived.Lib.Bytes
import Derived.Lib.SliceRun
import Derived.Lib.Walk
import Derived.Test.YtlpdhglibgnkoaaGreatP2
namespace Go.Proofs.YtlpdhglibgnkoaaGreat
open Go.RowKit
theorem not32 (s : Nat) (h : s < 4294967296) : bits .xor .u32 IntKind.u32.max (s : Int) = ((4294967295 ^^^ s : Nat) : Int) := x32 4294967295 s (by omega) h
theorem not32' (s : Nat) (h : s < 4294967296) : bits .xor .u32 4294967295 (s : Int) = ((4294967295 ^^^ s : Nat) : Int) := x32 4294967295 s (by omega) h
theorem Sm.new (w : World) (s : Nat) : Sm (w.alloc (.cells #[.int .u32 (s : Int)] 168)) w.heap.size s := heap_alloc_new w _
set_option maxHeartbeats 400000 in
theorem more_any (w : World) (s : Nat) (hs : s < 4294967296) (v : Value) (l : List Int) (hb : Bytes l) (h : Rd w v l) :
    Calls Tryz.prog 133 #[.int .u32 (s : Int), v] w fun e w' => e = .returned (.int .u32 ((more s l : Nat) : Int)) ∧ Below w.heap.size w w' := by
  obtain ⟨ao, cap, rfl, hc, hm, hz, h3⟩ := h
  have H3 := (show Hid _ from h3)
  have HB : Hid (Bytes l) := hb
  clear hb h3 hz
  obtain ⟨n, hn⟩ : ∃ n, l.length = n := ⟨_, rfl⟩
  rw [hn] at hc ⊢
  have HN := (show Hid _ from hn)
  clear hn
  have hx := not32 s hs
  obtain ⟨x, hxe⟩ : ∃ x, 4294967295 ^^^ s = x := ⟨_, rfl⟩
  have hxl : x < 4294967296 := by rw [← hxe]; exact xor_lt (by omega) hs
  have HM : Hid (more s l = 4294967295 ^^^ eats x l) := by rw [← hxe]; exact rfl
  rw [hxe] at hx
  have HX := (show Hid _ from hx)
  clear hxe hx
  go_enter Tryz.func133, Tryz.ntmps133
  go_wp2_with fail
  rw [HX.out]
  go_loopw [14] (fun i wr => ∃ k : Nat, k ≤ n ∧ i = .int .i64 k ∧ Sm wr w.heap.size (eats x (l.take k)) ∧ Below w.heap.size w wr) (fun i _ => n - (intOf i).toNat)
  case atStart => exact ⟨0, Nat.zero_le _, rfl, Sm.new w x, (Below.refl _ w).alloc (Nat.le_refl _) _⟩
  case round =>
    obtain ⟨k, hk, rfl, hS, hbl⟩ := hrel
    have HS : Hid (Sm wr w.heap.size (eats x (l.take k))) := hS
    have hle := eats_lt (HB.out.take k) hxl
    by_cases hlt : k < n
    · clear hS
      have hl : l ≠ [] := by intro h; rw [h] at HN; have := HN.out; simp at this; omega
      obtain ⟨b, o, rfl, hat⟩ := H3.out.resolve_left hl
      have hkl : k < l.length := by rw [HN.out]; exact hlt
      have hcell := hat k hkl
      have hblt : b < w.heap.size := World.block_lt_of_cell? w _ hcell
      have hcell2 : wr.cell? ⟨b, o + k, none⟩ = some (.int .u8 (l.getD k 0)) := (hbl.cell (p := ⟨b, o + k, none⟩) hblt).trans hcell
      have hc2 := HB.out.at k
      have HE := (show Hid _ from eats_snoc x l k hkl)
      obtain ⟨c, hcc⟩ : ∃ c, l.getD k 0 = c := ⟨_, rfl⟩
      rw [hcc] at hcell2 hc2 HE
      obtain ⟨y, hy⟩ : ∃ y, eats x (l.take k) = y := ⟨_, rfl⟩
      rw [hy] at hle HS HE
      clear hat hcell hkl hl hcc hy
      go_wp2_with (go_at_call 151; refine (take_any y hle c hc2 w.heap.size _ HS.out).mono ?_; rintro e w1 ⟨rfl, hS1, b1⟩)
      go_roundw
      case rel => exact ⟨k + 1, by omega, by go_num, by rw [HE.out]; exact hS1, hbl.trans b1⟩
      case measure => simp [intOf]; omega
    · obtain rfl : k = n := by omega
      rw [List.take_of_length_le (by rw [HN.out]; omega)] at hS hle
      have c1 := hS.cell
      clear hS HS
      have HF := (show Hid _ from not32 _ hle)
      go_wp2_with fail
      go_ret
      exact ⟨ret_int (by rw [HF.out, HM.out]), hbl⟩
theorem sum_any (w : World) (v : Value) (l : List Int) (hb : Bytes l) (h : Rd w v l) :
    Calls Tryz.prog 107 #[v] w fun e w' => e = .returned (.int .u32 ((sum l : Nat) : Int)) ∧ Below w.heap.size w w' := by
  have HB : Hid (Bytes l) := hb
  have H : Hid (Rd w v l) := h
  obtain ⟨ao, cap, rfl, hc, hm, hz, h3⟩ := h
  obtain ⟨n, hn⟩ : ∃ n, l.length = n := ⟨_, rfl⟩
  rw [hn] at hc H ⊢
  clear hn h3 hb hz
  go_enter Tryz.func107, Tryz.ntmps107
  go_wp2_with fail
  refine (more_any _ 0 (by omega) _ l HB.out H.out).mono ?_; rintro e w1 ⟨rfl, b1⟩
  go_wp2_with fail
  go_ret
  exact ⟨rfl, b1⟩
set_option maxHeartbeats 400000 in
theorem rsum_any (w : World) (v : Value) (l : List Int) (hb : Bytes l) (h : Rd w v l) :
    Calls Tryz.prog 118 #[v] w fun e w' => e = .returned (.int .u32 ((sum l : Nat) : Int)) ∧ w' = w := by
  obtain ⟨ao, cap, rfl, hc, hm, hz, h3⟩ := h
  have H3 := (show Hid _ from h3)
  have HB : Hid (Bytes l) := hb
  clear hb h3 hz
  obtain ⟨n, hn⟩ : ∃ n, l.length = n := ⟨_, rfl⟩
  rw [hn] at hc ⊢
  have HN := (show Hid _ from hn)
  clear hn
  have HM : Hid (sum l = 4294967295 ^^^ eats 4294967295 l) := rfl
  go_enter Tryz.func118, Tryz.ntmps118
  go_wp2_with fail
  go_loop [4, 3] (fun i x => ∃ k : Nat, k ≤ n ∧ i = .int .i64 k ∧ x = .int .u32 ((eats 4294967295 (l.take k) : Nat) : Int)) (fun i _ => n - (intOf i).toNat)
  case atStart => exact ⟨0, Nat.zero_le _, rfl, rfl⟩
  case round =>
    obtain ⟨k, hk, rfl, rfl⟩ := hrel
    have hle := eats_lt (HB.out.take k) (show 4294967295 < 4294967296 by omega)
    by_cases hlt : k < n
    · have hl : l ≠ [] := by intro h; rw [h] at HN; have := HN.out; simp at this; omega
      obtain ⟨b, o, rfl, hat⟩ := H3.out.resolve_left hl
      have hkl : k < l.length := by rw [HN.out]; exact hlt
      have hcell := hat k hkl
      have hc2 := HB.out.at k
      have HE := (show Hid _ from eats_snoc 4294967295 l k hkl)
      obtain ⟨c, hcc⟩ : ∃ c, l.getD k 0 = c := ⟨_, rfl⟩
      rw [hcc] at hcell hc2 HE
      obtain ⟨y, hy⟩ : ∃ y, eats 4294967295 (l.take k) = y := ⟨_, rfl⟩
      rw [hy] at hle HE
      rw [hy]
      have HY := (show Hid _ from byte_x y c hle hc2)
      have hxl := xor_lt hle (show c.toNat < 4294967296 by omega)
      have HE2 : Hid (eats 4294967295 (l.take (k + 1)) = halfs 8 (y ^^^ c.toNat)) := HE.out
      obtain ⟨x, hxe⟩ : ∃ x, y ^^^ c.toNat = x := ⟨_, rfl⟩
      rw [hxe] at HY hxl HE2
      clear hat hkl hl hcc hy HE hxe
      go_wp2_with fail
      rw [HY.out]
      go_loop [5, 3] (fun i z => ∃ j : Nat, j ≤ 8 ∧ i = .int .i64 j ∧ z = .int .u32 ((halfs j x : Nat) : Int)) (fun i _ => 8 - (intOf i).toNat)
      case atStart => exact ⟨0, Nat.zero_le _, rfl, rfl⟩
      case round =>
        obtain ⟨j, hj, rfl, rfl⟩ := hrel
        have hzl := halfs_lt hxl j
        have HJ : Hid (halfs (j + 1) x = half (halfs j x)) := rfl
        obtain ⟨z, hz⟩ : ∃ z, halfs j x = z := ⟨_, rfl⟩
        rw [hz] at hzl HJ ⊢
        have HZ : Hid (halfs j x = z) := hz
        clear hz
        have HH := (show Hid _ from halved_x z hzl)
        by_cases hj8 : j < 8
        · by_cases hodd : (z : Int) % 2 = 1
          · have hd : ((z : Int) % 2 == 1) = true := by simp [hodd]
            go_wp2_with fail
            go_round
            case rel => exact ⟨j + 1, by omega, by go_num, by rw [HH.out, HJ.out]; unfold half; rw [if_pos (by omega)]⟩
            case measure => simp [intOf]; omega
          · have hd : ((z : Int) % 2 == 1) = false := by simp [hodd]
            go_wp2_with fail
            go_round
            case rel => exact ⟨j + 1, by omega, by go_num, by rw [HJ.out]; unfold half; rw [if_neg (by omega)]; simp⟩
            case measure => simp [intOf]; omega
        · obtain rfl : j = 8 := by omega
          go_wp2_with fail
          go_round
          case rel => exact ⟨k + 1, by omega, by go_num, by rw [HE2.out, HZ.out]⟩
          case measure => simp [intOf]; omega
    · obtain rfl : k = n := by omega
      rw [List.take_of_length_le (by rw [HN.out]; omega)] at hle ⊢
      have HF := (show Hid _ from not32' _ hle)
      go_wp2_with fail
      go_ret
      exact ⟨ret_int (by rw [HF.out, HM.out]), rfl⟩
end Go.Proofs.YtlpdhglibgnkoaaGreat

namespace Go.Proofs.YtlpdhglibgnkoaaGreat
open Go.RowKit
theorem Own.new (w : World) (B : Nat) (hB : B ≤ w.heap.size) (l : List Int) (n : Nat) (hn : l.length = n) (hl : n ≤ 9223372036854775807) : Own (w.alloc (.cells (u8s l).toArray 5)) B (.slice (some ⟨w.heap.size, 0, none⟩) n n) l := by
  subst hn
  refine ⟨by rw [u8s_len, Nat.mul_one], Or.inr ⟨w.heap.size, l.length, (u8s l).toArray, rfl, hB, heap_alloc_new w _, Nat.le_refl _, hl, ?_, ?_⟩⟩
  · simp [u8s]
  · rw [Nat.mul_one, ← u8s_len l]; simp
theorem four_cells (s : Nat) : u8s (four s) = [.int .u8 ((s / 16777216 % 256 : Nat) : Int), .int .u8 ((s / 65536 % 256 : Nat) : Int), .int .u8 ((s / 256 % 256 : Nat) : Int), .int .u8 ((s % 256 : Nat) : Int)] := rfl
theorem four_len (s : Nat) : (four s).length = 4 := rfl
theorem four_ok (s : Nat) : Bytes (four s) := by
  intro b hb
  simp only [four, List.mem_cons, List.not_mem_nil, or_false] at hb
  omega
theorem bytesOf_any (w : World) (v : Value) (l : List Int) (hb : Bytes l) (h : Rd w v l) :
    Calls Tryz.prog 71 #[v] w fun e w' => ∃ u, e = .returned u ∧ Own w' w.heap.size u (four (sum l)) ∧ Below w.heap.size w w' := by
  have HB : Hid (Bytes l) := hb
  have H : Hid (Rd w v l) := h
  have hs := sum_lt hb
  obtain ⟨ao, cap, rfl, hc, hm, hz, h3⟩ := h
  obtain ⟨n, hn⟩ : ∃ n, l.length = n := ⟨_, rfl⟩
  rw [hn] at hc H ⊢
  clear hn h3 hb hz
  obtain ⟨s, hse⟩ : ∃ s, sum l = s := ⟨_, rfl⟩
  have HS := (show Hid _ from hse)
  rw [hse] at hs ⊢
  clear hse
  go_enter Tryz.func71, Tryz.ntmps71
  go_wp2_with fail
  refine (sum_any _ _ l HB.out H.out).mono ?_; rw [HS.out]; rintro e w1 ⟨rfl, b1⟩
  go_wp2_with fail
  go_ret
  refine ⟨_, rfl, ?_, b1.alloc b1.size _⟩
  have := Own.new w1 w.heap.size b1.size (four s) 4 rfl (by omega)
  rw [four_cells] at this
  rw [show (s : Int) / 16777216 = ((s / 16777216 % 256 : Nat) : Int) by omega, show (s : Int) / 65536 % 256 = ((s / 65536 % 256 : Nat) : Int) by omega,
    show (s : Int) / 256 % 256 = ((s / 256 % 256 : Nat) : Int) by omega, show (s : Int) % 256 = ((s % 256 : Nat) : Int) by omega]
  exact this
theorem Rd.mark (w : World) (l : List Int) (n : Nat) (hn : l.length = n) (hl : n ≤ 9223372036854775807) (fr : Nat × Nat) : Rd (w.alloc (.cells (u8s l).toArray 5 fr)) (.slice (some ⟨w.heap.size, 0, none⟩) n n) l := by
  subst hn
  refine Rd.at (fun i hi => ?_) (Nat.le_refl _) hl
  rw [Nat.zero_add, World.cell?_alloc_mark]
  simpa using u8s_at l i hi
theorem nums_inj : ∀ {l r : List Int}, Bytes l → Bytes r → Lib.bytesOf l = Lib.bytesOf r → l = r
  | [], [], _, _, _ => rfl
  | [], _ :: _, _, _, h => by simp [Lib.bytesOf] at h
  | _ :: _, [], _, _, h => by simp [Lib.bytesOf] at h
  | a :: l, b :: r, hl, hr, h => by
    simp only [Lib.bytesOf, List.map_cons, List.cons.injEq] at h
    have h1 := (Bytes.cons.1 hl).1
    have h2 := (Bytes.cons.1 hr).1
    have e := congrArg UInt8.toNat h.1
    rw [UInt8.toNat_ofNat', UInt8.toNat_ofNat'] at e
    have := nums_inj (Bytes.cons.1 hl).2 (Bytes.cons.1 hr).2 h.2
    rw [this, show a = b by omega]
theorem str_eq {l r : List Int} (hl : Bytes l) (hr : Bytes r) : ((strOfNums l).toList == (strOfNums r).toList) = decide (l = r) := by
  rw [Lib.strOfNums_toList, Lib.strOfNums_toList]
  by_cases h : l = r
  · subst h; simp
  · rw [decide_eq_false h]
    simp only [beq_eq_false_iff_ne, ne_eq]
    exact fun e => h (nums_inj hl hr e)
theorem equal_any (w : World) (v : Value) (l : List Int) (h : Rd w v l) (v' : Value) (l' : List Int) (h' : Rd w v' l') (hb : Bytes l) (hb' : Bytes l') :
    Calls Tryz.prog 72 #[v, v'] w fun e w' => e = .returned (.bool (decide (l = l'))) ∧ w' = w := by
  have s1 := str_run h
  have s2 := str_run h'
  have HE := (show Hid _ from str_eq hb hb')
  obtain ⟨ao, cap, rfl, -⟩ := h
  obtain ⟨ao', cap', rfl, -⟩ := h'
  go_enter Tryz.func72, Tryz.ntmps72
  go_wp2_with fail
  go_ret
  exact ⟨ret_bool HE.out, rfl⟩
set_option maxHeartbeats 400000 in
theorem clone_any (w : World) (v : Value) (l : List Int) (h : Rd w v l) (hlen : l.length ≤ 140737488355328) :
    Calls Tryz.prog 73 #[v] w fun e w' => ∃ u, e = .returned u ∧ Own w' w.heap.size u l ∧ Below w.heap.size w w' := by
  have H : Hid (Rd w v l) := h
  have q22 : ∀ (w : World) (a : Option Addr) (n c n' c' : Nat), (binOp .eql 32 (.slice a n c) (.slice none n' c')).run Tryz.prog w = .ok (.bool a.isNone) w := fun w a n c n' c' => Lib.run_eql_slice_nil w _ _ a n c n' c' Tryz.underlying32
  obtain ⟨ao, cap, rfl, hc, hm, hz, h3⟩ := h
  rcases ao with _ | a
  · have hz' := hz rfl
    subst hz'
    have hl : l = [] := List.eq_nil_of_length_eq_zero (by omega)
    subst hl
    go_enter Tryz.func73, Tryz.ntmps73
    go_wp2_with fail
    go_ret
    exact ⟨_, rfl, Own.nil _ _, Below.refl _ _⟩
  · obtain ⟨n, hn⟩ : ∃ n, l.length = n := ⟨_, rfl⟩
    rw [hn] at hc H hlen ⊢
    clear h3 hz
    have ho := Own.new w w.heap.size (Nat.le_refl _) [] 0 rfl (by omega)
    have hr := H.out.below ((Below.refl _ w).alloc (Nat.le_refl _) (.cells (u8s []).toArray 5))
    have HO : Hid (Own (w.alloc (.cells #[] 5)) w.heap.size (.slice (some ⟨w.heap.size, 0, none⟩) 0 0) []) := ho
    have HR : Hid (Rd (w.alloc (.cells #[] 5)) (.slice (some a) n cap) l) := hr
    clear ho hr
    go_enter Tryz.func73, Tryz.ntmps73
    go_wp2_with (at_builtin; refine app_wp rfl _ _ rfl w.heap.size _ [] rfl (by exact HO.out) _ l rfl (by exact HR.out) (by simp; omega) (by simp) ?_; intro u w1 own1 b1)
    go_ret
    exact ⟨_, rfl, own1, ((Below.refl _ w).alloc (Nat.le_refl _) _).trans b1⟩
end Go.Proofs.YtlpdhglibgnkoaaGreat

namespace Go.Proofs.YtlpdhglibgnkoaaGreat
open Go.RowKit
set_option maxRecDepth 20000
theorem zeros_size (n : Nat) : (Builtin.zeroCells (Value.int .u8 0).cells n).size = n := by
  have : (Builtin.zeroCells (Value.int .u8 0).cells n).size = n * (Value.int .u8 0).cells.size := by simp [Builtin.zeroCells]
  rw [this]; exact Nat.mul_one n
set_option maxHeartbeats 400000 in
theorem grow_any (w : World) (N : Int) (n : Nat) (hN : N = (n : Int)) (h1 : 1 ≤ n) (h2 : n ≤ 140737488355328) :
    Calls Tryz.prog 106 #[.slice none 0 0, .int .i64 N] w fun e w' => ∃ u, e = .returned u ∧ Own w' w.heap.size u [] ∧ Below w.heap.size w w' := by
  subst hN
  obtain ⟨i0, hi, hz0, hz1, hz2⟩ := info_parts info8
  have hge := grownCap_ge w n 0 5
  have hle := grownCap_le_maxLen w n 0 5 (by unfold maxLen; omega)
  have hrun := Lib.run_append_grow_zeros (P := Tryz.prog) w 32 3 32 5 i0 (.int .u8 0) .i64 .i64 Tryz.underlying32 Tryz.underlying3 hi hz0 none 0 0 [] (run_firstCells_none w.drew i0.size 0 0 0) n (by omega) (by rw [hz1]; omega) (by omega) (by omega) (by rw [hz2]; omega) (by rw [hz2, Nat.zero_add]; have := growslice_fits (need := n) (old := 0) (bytes := 1) (by omega) (by omega); exact this)
  rw [Nat.zero_add] at hrun
  obtain ⟨G, hG⟩ : ∃ G, grownCap w n 0 5 = G := ⟨_, rfl⟩
  rw [hG] at hrun hge hle
  obtain ⟨w2, e2⟩ : ∃ w2, w.drew.alloc (.cells (([] : List Value).toArray ++ Builtin.zeroCells (Value.int .u8 0).cells n ++ Builtin.zeroCells (Value.int .u8 0).cells (G - n)) 5) = w2 := ⟨_, rfl⟩
  have HO : Hid (Own w2 w.heap.size (.slice (some ⟨w.heap.size, 0, none⟩) 0 G) []) := by
    rw [← e2]
    refine ⟨rfl, Or.inr ⟨w.heap.size, G, _, rfl, Nat.le_refl _, heap_alloc_new w.drew _, Nat.zero_le _, hle, ?_, by simp [u8s]⟩⟩
    rw [Array.size_append, Array.size_append, zeros_size, zeros_size]; simp; omega
  have b2 : Below w.heap.size w w2 := by rw [← e2]; exact (Below.refl _ w).drew.alloc (Nat.le_refl _) _
  rw [e2] at hrun
  unfold maxLen at hle
  clear hG hi hz0 hz1 hz2 e2
  go_enter Tryz.func106, Tryz.ntmps106
  go_wp2_with (at_builtin; refine Lib.wpList_append_run _ rfl _ _ _ _ rfl _ _ rfl rfl _ _ hrun ?_)
  go_ret
  exact ⟨_, rfl, HO.out, b2⟩
set_option maxHeartbeats 1000000 in
theorem concat_any (w : World) (g : Nat) (v1 v2 : Value) (l1 l2 : List Int) (c0 : w.cell? ⟨g, 0, none⟩ = some v1) (c1 : w.cell? ⟨g, 1, none⟩ = some v2) (h1 : Rd w v1 l1) (h2 : Rd w v2 l2) (hp : 1 ≤ l2.length) (hlen : l1.length + l2.length ≤ 140737488355328) :
    Calls Tryz.prog 70 #[.slice (some ⟨g, 0, none⟩) 2 2] w fun e w' => ∃ u, e = .returned u ∧ Own w' w.heap.size u (l1 ++ l2) ∧ Below w.heap.size w w' := by
  have H1 : Hid (Rd w v1 l1) := h1
  have H2 : Hid (Rd w v2 l2) := h2
  have hg : g < w.heap.size := World.block_lt_of_cell? w _ c0
  obtain ⟨ao1, cap1, rfl, -⟩ := h1
  obtain ⟨ao2, cap2, rfl, -⟩ := h2
  obtain ⟨n1, hn1⟩ : ∃ n, l1.length = n := ⟨_, rfl⟩
  obtain ⟨n2, hn2⟩ : ∃ n, l2.length = n := ⟨_, rfl⟩
  rw [hn1] at c0 H1 hlen
  rw [hn2] at c1 H2 hlen hp
  have HN1 := (show Hid _ from hn1)
  have HN2 := (show Hid _ from hn2)
  clear hn1 hn2
  go_enter Tryz.func70, Tryz.ntmps70
  go_wp2_with fail
  refine wp_loop_rounds 3 ?_
  rw [rounds_succ]
  go_wp2_with fail
  rw [rounds_succ]
  go_wp2_with fail
  rw [rounds_succ]
  go_wp2_with fail
  refine (grow_any _ _ (n1 + n2) (by omega) (by omega) hlen).mono ?_; rintro e w1 ⟨u, rfl, own1, b1⟩
  have c01 := (b1.cell (p := ⟨g, 0, none⟩) hg).trans c0
  have r1 := H1.out.below b1
  have s1 := b1.size
  go_wp2_with fail
  refine wp_loop_rounds 3 ?_
  rw [rounds_succ]
  go_wp2_with (at_builtin; refine app_wp rfl _ _ rfl w.heap.size _ [] rfl (by exact own1) _ l1 rfl (by exact r1) (by rw [HN1.out]; simp; omega) s1 ?_; intro u2 w2 own2 b2)
  have b12 := b1.trans b2
  have c12 := (b12.cell (p := ⟨g, 1, none⟩) hg).trans c1
  have r2 := H2.out.below b12
  have s2 := b12.size
  rw [List.nil_append] at own2
  rw [rounds_succ]
  go_wp2_with (at_builtin; refine app_wp rfl _ _ rfl w.heap.size _ l1 rfl (by exact own2) _ l2 rfl (by exact r2) (by rw [HN1.out, HN2.out]; omega) s2 ?_; intro u3 w3 own3 b3)
  rw [rounds_succ]
  go_wp2_with fail
  go_ret
  exact ⟨_, rfl, own3, b12.trans b3⟩
set_option maxHeartbeats 400000 in
theorem seal_any (w : World) (v : Value) (l : List Int) (hb : Bytes l) (h : Rd w v l) (hlen : l.length + 4 ≤ 140737488355328) :
    Calls Tryz.prog 43 #[v] w fun e w' => ∃ u, e = .returned u ∧ Own w' w.heap.size u (l ++ four (sum l)) ∧ Below w.heap.size w w' := by
  have HB : Hid (Bytes l) := hb
  have H : Hid (Rd w v l) := h
  obtain ⟨ao, cap, rfl, hc, hm, hz, h3⟩ := h
  obtain ⟨n, hn⟩ : ∃ n, l.length = n := ⟨_, rfl⟩
  rw [hn] at hc H hlen ⊢
  have HN := (show Hid _ from hn)
  clear hn h3 hb hz
  go_enter Tryz.func43, Tryz.ntmps43
  go_wp2_with fail
  refine (bytesOf_any _ _ l HB.out H.out).mono ?_; rintro e w1 ⟨u, rfl, own1, b1⟩
  have HO : Hid (Own w1 w.heap.size u (four (sum l))) := own1
  obtain ⟨g, cp, rfl, -⟩ := own1.form (by simp [four])
  rw [four_len] at HO ⊢
  clear own1
  go_wp2_with fail
  have ba : ∀ o, Below w1.heap.size w1 (w1.alloc o) := fun o => (Below.refl _ _).alloc (Nat.le_refl _) _
  refine (concat_any _ w1.heap.size _ _ l (four (sum l)) (by simp) (by simp) ((H.out.below b1).below (ba _)) (HO.out.rd.below (ba _)) (by rw [four_len]; omega) (by rw [four_len, HN.out]; omega)).mono ?_
  rintro e w2 ⟨u2, rfl, own2, b2⟩
  have b3 := bthen ((b1.trans ((ba _).mono b1.size))) b2
  have own3 := own2.mono (B' := w.heap.size) (by have := b1.size; simp; omega)
  go_wp2_with fail
  go_ret
  exact ⟨_, rfl, own3, b3⟩
def fourC (s : Nat) : Obj := .cells #[.int .u8 ((s : Int) / 16777216), .int .u8 ((s : Int) / 65536 % 256), .int .u8 ((s : Int) / 256 % 256), .int .u8 ((s : Int) % 256)] 5
theorem rd_four (w : World) (s : Nat) (hs : s < 4294967296) : Rd (w.alloc (fourC s)) (.slice (some ⟨w.heap.size, 0, none⟩) 4 4) (four s) := by
  have := (Own.new w w.heap.size (Nat.le_refl _) (four s) 4 rfl (by omega)).rd
  rw [four_cells] at this
  unfold fourC
  rw [show (s : Int) / 16777216 = ((s / 16777216 % 256 : Nat) : Int) by omega, show (s : Int) / 65536 % 256 = ((s / 65536 % 256 : Nat) : Int) by omega,
    show (s : Int) / 256 % 256 = ((s / 256 % 256 : Nat) : Int) by omega, show (s : Int) % 256 = ((s % 256 : Nat) : Int) by omega]
  exact this
set_option maxHeartbeats 400000 in
theorem rseal_any (w : World) (v : Value) (l : List Int) (hb : Bytes l) (h : Rd w v l) (hlen : l.length + 4 ≤ 140737488355328) :
    Calls Tryz.prog 91 #[v] w fun e w' => ∃ u, e = .returned u ∧ Own w' w.heap.size u (l ++ four (sum l)) ∧ Below w.heap.size w w' := by
  have HB : Hid (Bytes l) := hb
  have H : Hid (Rd w v l) := h
  have hs := sum_lt hb
  obtain ⟨ao, cap, rfl, hc, hm, hz, h3⟩ := h
  obtain ⟨n, hn⟩ : ∃ n, l.length = n := ⟨_, rfl⟩
  rw [hn] at hc H hlen ⊢
  have HN := (show Hid _ from hn)
  clear hn h3 hb hz
  obtain ⟨s, hse⟩ : ∃ s, sum l = s := ⟨_, rfl⟩
  have HS := (show Hid _ from hse)
  rw [hse] at hs ⊢
  clear hse
  have HO : Hid (Own (w.alloc (.cells #[] 5)) w.heap.size (.slice (some ⟨w.heap.size, 0, none⟩) 0 0) []) := Own.new w w.heap.size (Nat.le_refl _) [] 0 rfl (by omega)
  have HR : Hid (Rd (w.alloc (.cells #[] 5)) (.slice ao n cap) l) := H.out.below ((Below.refl _ w).alloc (Nat.le_refl _) _)
  go_enter Tryz.func91, Tryz.ntmps91
  go_wp2_with fail
  refine (rsum_any _ _ l HB.out H.out).mono ?_; rw [HS.out]; rintro e w1 ⟨rfl, rfl⟩
  go_wp2_with (first
    | (at_builtin; refine app_wp rfl (.tmp 6) (.tmp 7) rfl w1.heap.size _ [] rfl (by exact HO.out) _ l rfl (by exact HR.out) (by rw [HN.out]; simp; omega) (by simp) ?_; intro u2 w2 own2 b2; rw [List.nil_append] at own2; have R4 := rd_four w2 s hs; have o2 := own2.below ((Below.refl _ w2).alloc (Nat.le_refl _) (fourC s)); have z2 := b2.size)
    | (at_builtin; refine app_wp rfl (.tmp 8) (.tmp 23) rfl w1.heap.size _ l rfl (by exact o2) _ (four s) rfl (by exact R4) (by rw [HN.out, four_len]; omega) (by simp at z2 ⊢; omega) ?_; intro u3 w3 own3 b3))
  go_ret
  refine ⟨_, rfl, own3, ?_⟩
  have ba := (Below.refl w1.heap.size w1).alloc (Nat.le_refl _) (.cells #[] 5)
  exact ((ba.trans b2).alloc (by simp at z2; omega) _).trans b3
end Go.Proofs.YtlpdhglibgnkoaaGreat
