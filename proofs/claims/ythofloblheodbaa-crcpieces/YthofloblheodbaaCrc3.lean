/-
  Layer 6 (crc): the sum of bytes, by the code and by the document.
-/
import Derived.Test.YthofloblheodbaaCrc2
namespace Go.Proofs.Ythofloblheodbaa
open Go.RowKit
theorem not32 (s : Nat) (h : s < 4294967296) : bits .xor .u32 IntKind.u32.max (s : Int) = ((4294967295 ^^^ s : Nat) : Int) := x32 4294967295 s (by omega) h
theorem not32' (s : Nat) (h : s < 4294967296) : bits .xor .u32 4294967295 (s : Int) = ((4294967295 ^^^ s : Nat) : Int) := x32 4294967295 s (by omega) h
theorem Sm.new (w : World) (s : Nat) : Sm (w.alloc (.cells #[.int .u32 (s : Int)] 24)) w.heap.size s := heap_alloc_new w _
set_option maxHeartbeats 400000 in
theorem more_any (w : World) (s : Nat) (hs : s < 4294967296) (v : Value) (l : List Int) (hb : Bytes l) (h : Rd w v l) :
    Calls Try.prog 11 #[.int .u32 (s : Int), v] w fun e w' => e = .returned (.int .u32 ((more s l : Nat) : Int)) ∧ Below w.heap.size w w' := by
  obtain ⟨ao, cap, rfl, hc, hm, hz, h3⟩ := h
  have H3 := (show Hid _ from h3)
  have HB : Hid (Bytes l) := hb
  clear hb h3 hz
  obtain ⟨n, hn⟩ : ∃ n, l.length = n := ⟨_, rfl⟩
  rw [hn] at hc ⊢
  have HN := (show Hid _ from hn)
  clear hn
  have hx := not32 s hs
  obtain ⟨x, hxe⟩ : ∃ x, 4294967295 ^^^ s = x := ⟨_, rfl⟩
  have hxl : x < 4294967296 := by rw [← hxe]; exact xor_lt (by omega) hs
  have HM : Hid (more s l = 4294967295 ^^^ eats x l) := by rw [← hxe]; exact rfl
  rw [hxe] at hx
  have HX := (show Hid _ from hx)
  clear hxe hx
  go_enter Try.func11, Try.ntmps11
  go_wp2_with fail
  rw [HX.out]
  go_loopw [14] (fun i wr => ∃ k : Nat, k ≤ n ∧ i = .int .i64 k ∧ Sm wr w.heap.size (eats x (l.take k)) ∧ Below w.heap.size w wr) (fun i _ => n - (intOf i).toNat)
  case atStart => exact ⟨0, Nat.zero_le _, rfl, Sm.new w x, (Below.refl _ w).alloc (Nat.le_refl _) _⟩
  case round =>
    obtain ⟨k, hk, rfl, hS, hbl⟩ := hrel
    have HS : Hid (Sm wr w.heap.size (eats x (l.take k))) := hS
    have hle := eats_lt (HB.out.take k) hxl
    by_cases hlt : k < n
    · clear hS
      have hl : l ≠ [] := by intro h; rw [h] at HN; have := HN.out; simp at this; omega
      obtain ⟨b, o, rfl, hat⟩ := H3.out.resolve_left hl
      have hkl : k < l.length := by rw [HN.out]; exact hlt
      have hcell := hat k hkl
      have hblt : b < w.heap.size := World.block_lt_of_cell? w _ hcell
      have hcell2 : wr.cell? ⟨b, o + k, none⟩ = some (.int .u8 (l.getD k 0)) := (hbl.cell (p := ⟨b, o + k, none⟩) hblt).trans hcell
      have hc2 := HB.out.at k
      have HE := (show Hid _ from eats_snoc x l k hkl)
      obtain ⟨c, hcc⟩ : ∃ c, l.getD k 0 = c := ⟨_, rfl⟩
      rw [hcc] at hcell2 hc2 HE
      obtain ⟨y, hy⟩ : ∃ y, eats x (l.take k) = y := ⟨_, rfl⟩
      rw [hy] at hle HS HE
      clear hat hcell hkl hl hcc hy
      go_wp2_with (go_at_call 16; refine (take_any y hle c hc2 w.heap.size _ HS.out).mono ?_; rintro e w1 ⟨rfl, hS1, b1⟩)
      go_roundw
      case rel => exact ⟨k + 1, by omega, by go_num, by rw [HE.out]; exact hS1, hbl.trans b1⟩
      case measure => simp [intOf]; omega
    · obtain rfl : k = n := by omega
      rw [List.take_of_length_le (by rw [HN.out]; omega)] at hS hle
      have c1 := hS.cell
      clear hS HS
      have HF := (show Hid _ from not32 _ hle)
      go_wp2_with fail
      go_ret
      exact ⟨ret_int (by rw [HF.out, HM.out]), hbl⟩
theorem sum_any (w : World) (v : Value) (l : List Int) (hb : Bytes l) (h : Rd w v l) :
    Calls Try.prog 9 #[v] w fun e w' => e = .returned (.int .u32 ((sum l : Nat) : Int)) ∧ Below w.heap.size w w' := by
  have HB : Hid (Bytes l) := hb
  have H : Hid (Rd w v l) := h
  obtain ⟨ao, cap, rfl, hc, hm, hz, h3⟩ := h
  obtain ⟨n, hn⟩ : ∃ n, l.length = n := ⟨_, rfl⟩
  rw [hn] at hc H ⊢
  clear hn h3 hb hz
  go_enter Try.func9, Try.ntmps9
  go_wp2_with fail
  refine (more_any _ 0 (by omega) _ l HB.out H.out).mono ?_; rintro e w1 ⟨rfl, b1⟩
  go_wp2_with fail
  go_ret
  exact ⟨rfl, b1⟩
set_option maxHeartbeats 400000 in
theorem rsum_any (w : World) (v : Value) (l : List Int) (hb : Bytes l) (h : Rd w v l) :
    Calls Try.prog 10 #[v] w fun e w' => e = .returned (.int .u32 ((sum l : Nat) : Int)) ∧ w' = w := by
  obtain ⟨ao, cap, rfl, hc, hm, hz, h3⟩ := h
  have H3 := (show Hid _ from h3)
  have HB : Hid (Bytes l) := hb
  clear hb h3 hz
  obtain ⟨n, hn⟩ : ∃ n, l.length = n := ⟨_, rfl⟩
  rw [hn] at hc ⊢
  have HN := (show Hid _ from hn)
  clear hn
  have HM : Hid (sum l = 4294967295 ^^^ eats 4294967295 l) := rfl
  go_enter Try.func10, Try.ntmps10
  go_wp2_with fail
  go_loop [4, 3] (fun i x => ∃ k : Nat, k ≤ n ∧ i = .int .i64 k ∧ x = .int .u32 ((eats 4294967295 (l.take k) : Nat) : Int)) (fun i _ => n - (intOf i).toNat)
  case atStart => exact ⟨0, Nat.zero_le _, rfl, rfl⟩
  case round =>
    obtain ⟨k, hk, rfl, rfl⟩ := hrel
    have hle := eats_lt (HB.out.take k) (show 4294967295 < 4294967296 by omega)
    by_cases hlt : k < n
    · have hl : l ≠ [] := by intro h; rw [h] at HN; have := HN.out; simp at this; omega
      obtain ⟨b, o, rfl, hat⟩ := H3.out.resolve_left hl
      have hkl : k < l.length := by rw [HN.out]; exact hlt
      have hcell := hat k hkl
      have hc2 := HB.out.at k
      have HE := (show Hid _ from eats_snoc 4294967295 l k hkl)
      obtain ⟨c, hcc⟩ : ∃ c, l.getD k 0 = c := ⟨_, rfl⟩
      rw [hcc] at hcell hc2 HE
      obtain ⟨y, hy⟩ : ∃ y, eats 4294967295 (l.take k) = y := ⟨_, rfl⟩
      rw [hy] at hle HE
      rw [hy]
      have HY := (show Hid _ from byte_x y c hle hc2)
      have hxl := xor_lt hle (show c.toNat < 4294967296 by omega)
      have HE2 : Hid (eats 4294967295 (l.take (k + 1)) = halfs 8 (y ^^^ c.toNat)) := HE.out
      obtain ⟨x, hxe⟩ : ∃ x, y ^^^ c.toNat = x := ⟨_, rfl⟩
      rw [hxe] at HY hxl HE2
      clear hat hkl hl hcc hy HE hxe
      go_wp2_with fail
      rw [HY.out]
      go_loop [5, 3] (fun i z => ∃ j : Nat, j ≤ 8 ∧ i = .int .i64 j ∧ z = .int .u32 ((halfs j x : Nat) : Int)) (fun i _ => 8 - (intOf i).toNat)
      case atStart => exact ⟨0, Nat.zero_le _, rfl, rfl⟩
      case round =>
        obtain ⟨j, hj, rfl, rfl⟩ := hrel
        have hzl := halfs_lt hxl j
        have HJ : Hid (halfs (j + 1) x = half (halfs j x)) := rfl
        obtain ⟨z, hz⟩ : ∃ z, halfs j x = z := ⟨_, rfl⟩
        rw [hz] at hzl HJ ⊢
        have HZ : Hid (halfs j x = z) := hz
        clear hz
        have HH := (show Hid _ from halved_x z hzl)
        by_cases hj8 : j < 8
        · by_cases hodd : (z : Int) % 2 = 1
          · have hd : ((z : Int) % 2 == 1) = true := by simp [hodd]
            go_wp2_with fail
            go_round
            case rel => exact ⟨j + 1, by omega, by go_num, by rw [HH.out, HJ.out]; unfold half; rw [if_pos (by omega)]⟩
            case measure => simp [intOf]; omega
          · have hd : ((z : Int) % 2 == 1) = false := by simp [hodd]
            go_wp2_with fail
            go_round
            case rel => exact ⟨j + 1, by omega, by go_num, by rw [HJ.out]; unfold half; rw [if_neg (by omega)]; simp⟩
            case measure => simp [intOf]; omega
        · obtain rfl : j = 8 := by omega
          go_wp2_with fail
          go_round
          case rel => exact ⟨k + 1, by omega, by go_num, by rw [HE2.out, HZ.out]⟩
          case measure => simp [intOf]; omega
    · obtain rfl : k = n := by omega
      rw [List.take_of_length_le (by rw [HN.out]; omega)] at hle ⊢
      have HF := (show Hid _ from not32' _ hle)
      go_wp2_with fail
      go_ret
      exact ⟨ret_int (by rw [HF.out, HM.out]), rfl⟩
end Go.Proofs.Ythofloblheodbaa
