/-
  Layer 6 (crc): a sum's bytes, the library's Equal, Clone, Grow and Concat of bytes.
-/
import Derived.Test.YthofloblheodbaaCrc3
import Derived.Lib.AppendZerosOnto
import Derived.Lib.SlBytesConst
import Derived.Lib.SmallJoins
import Derived.Lib.Bytes
import Derived.Lib.SliceRun
namespace Go.Proofs.Ythofloblheodbaa
open Go.RowKit
theorem Own.new (w : World) (B : Nat) (hB : B ≤ w.heap.size) (l : List Int) (n : Nat) (hn : l.length = n) (hl : n ≤ 9223372036854775807) : Own (w.alloc (.cells (u8s l).toArray 5)) B (.slice (some ⟨w.heap.size, 0, none⟩) n n) l := by
  subst hn
  refine ⟨by rw [u8s_len, Nat.mul_one], Or.inr ⟨w.heap.size, l.length, (u8s l).toArray, rfl, hB, heap_alloc_new w _, Nat.le_refl _, hl, ?_, ?_⟩⟩
  · simp [u8s]
  · rw [Nat.mul_one, ← u8s_len l]; simp
theorem four_cells (s : Nat) : u8s (four s) = [.int .u8 ((s / 16777216 % 256 : Nat) : Int), .int .u8 ((s / 65536 % 256 : Nat) : Int), .int .u8 ((s / 256 % 256 : Nat) : Int), .int .u8 ((s % 256 : Nat) : Int)] := rfl
theorem four_len (s : Nat) : (four s).length = 4 := rfl
theorem four_ok (s : Nat) : Bytes (four s) := by
  intro b hb
  simp only [four, List.mem_cons, List.not_mem_nil, or_false] at hb
  omega
theorem bytesOf_any (w : World) (v : Value) (l : List Int) (hb : Bytes l) (h : Rd w v l) :
    Calls Try.prog 19 #[v] w fun e w' => ∃ u, e = .returned u ∧ Own w' w.heap.size u (four (sum l)) ∧ Below w.heap.size w w' := by
  have HB : Hid (Bytes l) := hb
  have H : Hid (Rd w v l) := h
  have hs := sum_lt hb
  obtain ⟨ao, cap, rfl, hc, hm, hz, h3⟩ := h
  obtain ⟨n, hn⟩ : ∃ n, l.length = n := ⟨_, rfl⟩
  rw [hn] at hc H ⊢
  clear hn h3 hb hz
  obtain ⟨s, hse⟩ : ∃ s, sum l = s := ⟨_, rfl⟩
  have HS := (show Hid _ from hse)
  rw [hse] at hs ⊢
  clear hse
  go_enter Try.func19, Try.ntmps19
  go_wp2_with fail
  refine (sum_any _ _ l HB.out H.out).mono ?_; rw [HS.out]; rintro e w1 ⟨rfl, b1⟩
  go_wp2_with fail
  go_ret
  refine ⟨_, rfl, ?_, b1.alloc b1.size _⟩
  have := Own.new w1 w.heap.size b1.size (four s) 4 rfl (by omega)
  rw [four_cells] at this
  rw [show (s : Int) / 16777216 = ((s / 16777216 % 256 : Nat) : Int) by omega, show (s : Int) / 65536 % 256 = ((s / 65536 % 256 : Nat) : Int) by omega,
    show (s : Int) / 256 % 256 = ((s / 256 % 256 : Nat) : Int) by omega, show (s : Int) % 256 = ((s % 256 : Nat) : Int) by omega]
  exact this
theorem Rd.mark (w : World) (l : List Int) (n : Nat) (hn : l.length = n) (hl : n ≤ 9223372036854775807) (fr : Nat × Nat) : Rd (w.alloc (.cells (u8s l).toArray 5 fr)) (.slice (some ⟨w.heap.size, 0, none⟩) n n) l := by
  subst hn
  refine Rd.at (fun i hi => ?_) (Nat.le_refl _) hl
  rw [Nat.zero_add, World.cell?_alloc_mark]
  simpa using u8s_at l i hi
theorem sum_nine : sum [49, 50, 51, 52, 53, 54, 55, 56, 57] = 3421780262 := by decide +kernel
theorem alive_any (w : World) : Calls Try.prog 8 #[] w fun e w' => e = .returned (.bool true) ∧ Below w.heap.size w w' := by
  have kc := Lib.run_convert_bytes_const (P := Try.prog) w 22 5 (u8s [49, 50, 51, 52, 53, 54, 55, 56, 57]).toArray 9 9 Try.underlying22 Try.underlying5
  have HR := (show Hid _ from Rd.mark w [49, 50, 51, 52, 53, 54, 55, 56, 57] 9 rfl (by omega) (9, 10))
  have e0 : (u8s [49, 50, 51, 52, 53, 54, 55, 56, 57]).toArray = #[.int .u8 49, .int .u8 50, .int .u8 51, .int .u8 52, .int .u8 53, .int .u8 54, .int .u8 55, .int .u8 56, .int .u8 57] := rfl
  rw [e0] at kc HR
  clear e0
  have HS := (show Hid _ from sum_nine)
  go_enter Try.func8, Try.ntmps8
  go_wp2_with fail
  refine (sum_any _ _ [49, 50, 51, 52, 53, 54, 55, 56, 57] (by intro b hb; simp at hb; omega) (by exact HR.out)).mono ?_; rw [HS.out]; rintro e w1 ⟨rfl, b1⟩
  go_wp2_with fail
  go_ret
  exact ⟨rfl, bup ((Below.refl _ w).alloc (Nat.le_refl _) _) (Nat.le_refl _) b1⟩
theorem nums_inj : ∀ {l r : List Int}, Bytes l → Bytes r → Lib.bytesOf l = Lib.bytesOf r → l = r
  | [], [], _, _, _ => rfl
  | [], _ :: _, _, _, h => by simp [Lib.bytesOf] at h
  | _ :: _, [], _, _, h => by simp [Lib.bytesOf] at h
  | a :: l, b :: r, hl, hr, h => by
    simp only [Lib.bytesOf, List.map_cons, List.cons.injEq] at h
    have h1 := (Bytes.cons.1 hl).1
    have h2 := (Bytes.cons.1 hr).1
    have e := congrArg UInt8.toNat h.1
    rw [UInt8.toNat_ofNat', UInt8.toNat_ofNat'] at e
    have := nums_inj (Bytes.cons.1 hl).2 (Bytes.cons.1 hr).2 h.2
    rw [this, show a = b by omega]
theorem str_eq {l r : List Int} (hl : Bytes l) (hr : Bytes r) : ((strOfNums l).toList == (strOfNums r).toList) = decide (l = r) := by
  rw [Lib.strOfNums_toList, Lib.strOfNums_toList]
  by_cases h : l = r
  · subst h; simp
  · rw [decide_eq_false h]
    simp only [beq_eq_false_iff_ne, ne_eq]
    exact fun e => h (nums_inj hl hr e)
theorem equal_any (w : World) (v : Value) (l : List Int) (h : Rd w v l) (v' : Value) (l' : List Int) (h' : Rd w v' l') (hb : Bytes l) (hb' : Bytes l') :
    Calls Try.prog 20 #[v, v'] w fun e w' => e = .returned (.bool (decide (l = l'))) ∧ w' = w := by
  have s1 := str_run h
  have s2 := str_run h'
  have HE := (show Hid _ from str_eq hb hb')
  obtain ⟨ao, cap, rfl, -⟩ := h
  obtain ⟨ao', cap', rfl, -⟩ := h'
  go_enter Try.func20, Try.ntmps20
  go_wp2_with fail
  go_ret
  exact ⟨ret_bool HE.out, rfl⟩
set_option maxHeartbeats 400000 in
theorem clone_any (w : World) (v : Value) (l : List Int) (h : Rd w v l) (hlen : l.length ≤ 140737488355328) :
    Calls Try.prog 21 #[v] w fun e w' => ∃ u, e = .returned u ∧ Own w' w.heap.size u l ∧ Below w.heap.size w w' := by
  have H : Hid (Rd w v l) := h
  have q22 : ∀ (w : World) (a : Option Addr) (n c n' c' : Nat), (binOp .eql 22 (.slice a n c) (.slice none n' c')).run Try.prog w = .ok (.bool a.isNone) w := fun w a n c n' c' => Lib.run_eql_slice_nil w _ _ a n c n' c' Try.underlying22
  obtain ⟨ao, cap, rfl, hc, hm, hz, h3⟩ := h
  rcases ao with _ | a
  · have hz' := hz rfl
    subst hz'
    have hl : l = [] := List.eq_nil_of_length_eq_zero (by omega)
    subst hl
    go_enter Try.func21, Try.ntmps21
    go_wp2_with fail
    go_ret
    exact ⟨_, rfl, Own.nil _ _, Below.refl _ _⟩
  · obtain ⟨n, hn⟩ : ∃ n, l.length = n := ⟨_, rfl⟩
    rw [hn] at hc H hlen ⊢
    clear h3 hz
    have ho := Own.new w w.heap.size (Nat.le_refl _) [] 0 rfl (by omega)
    have hr := H.out.below ((Below.refl _ w).alloc (Nat.le_refl _) (.cells (u8s []).toArray 5))
    have HO : Hid (Own (w.alloc (.cells #[] 5)) w.heap.size (.slice (some ⟨w.heap.size, 0, none⟩) 0 0) []) := ho
    have HR : Hid (Rd (w.alloc (.cells #[] 5)) (.slice (some a) n cap) l) := hr
    clear ho hr
    go_enter Try.func21, Try.ntmps21
    go_wp2_with (at_builtin; refine app_wp rfl _ _ rfl w.heap.size _ [] rfl (by exact HO.out) _ l rfl (by exact HR.out) (by simp; omega) (by simp) ?_; intro u w1 own1 b1)
    go_ret
    exact ⟨_, rfl, own1, ((Below.refl _ w).alloc (Nat.le_refl _) _).trans b1⟩
end Go.Proofs.Ythofloblheodbaa
