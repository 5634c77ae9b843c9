/-
  Layer 6 (crc): the library's Grow and Concat of bytes; Seal, by the code and by the document.
-/
import Derived.Test.YthofloblheodbaaCrc4
import Derived.Lib.Walk
import Derived.Lib.AppendZerosOnto
namespace Go.Proofs.Ythofloblheodbaa
open Go.RowKit
set_option maxRecDepth 20000
theorem zeros_size (n : Nat) : (Builtin.zeroCells (Value.int .u8 0).cells n).size = n := by
  have : (Builtin.zeroCells (Value.int .u8 0).cells n).size = n * (Value.int .u8 0).cells.size := by simp [Builtin.zeroCells]
  rw [this]; exact Nat.mul_one n
set_option maxHeartbeats 400000 in
theorem grow_any (w : World) (N : Int) (n : Nat) (hN : N = (n : Int)) (h1 : 1 ≤ n) (h2 : n ≤ 140737488355328) :
    Calls Try.prog 22 #[.slice none 0 0, .int .i64 N] w fun e w' => ∃ u, e = .returned u ∧ Own w' w.heap.size u [] ∧ Below w.heap.size w w' := by
  subst hN
  obtain ⟨i0, hi, hz0, hz1, hz2⟩ := info_parts info8
  have hge := grownCap_ge w n 0 5
  have hle := grownCap_le_maxLen w n 0 5 (by unfold maxLen; omega)
  have hrun := Lib.run_append_grow_zeros (P := Try.prog) w 22 3 22 5 i0 (.int .u8 0) .i64 .i64 Try.underlying22 Try.underlying3 hi hz0 none 0 0 [] (run_firstCells_none w.drew i0.size 0 0 0) n (by omega) (by rw [hz1]; omega) (by omega) (by omega) (by rw [hz2]; omega) (by rw [hz2, Nat.zero_add]; have := growslice_fits (need := n) (old := 0) (bytes := 1) (by omega) (by omega); exact this)
  rw [Nat.zero_add] at hrun
  obtain ⟨G, hG⟩ : ∃ G, grownCap w n 0 5 = G := ⟨_, rfl⟩
  rw [hG] at hrun hge hle
  obtain ⟨w2, e2⟩ : ∃ w2, w.drew.alloc (.cells (([] : List Value).toArray ++ Builtin.zeroCells (Value.int .u8 0).cells n ++ Builtin.zeroCells (Value.int .u8 0).cells (G - n)) 5) = w2 := ⟨_, rfl⟩
  have HO : Hid (Own w2 w.heap.size (.slice (some ⟨w.heap.size, 0, none⟩) 0 G) []) := by
    rw [← e2]
    refine ⟨rfl, Or.inr ⟨w.heap.size, G, _, rfl, Nat.le_refl _, heap_alloc_new w.drew _, Nat.zero_le _, hle, ?_, by simp [u8s]⟩⟩
    rw [Array.size_append, Array.size_append, zeros_size, zeros_size]; simp; omega
  have b2 : Below w.heap.size w w2 := by rw [← e2]; exact (Below.refl _ w).drew.alloc (Nat.le_refl _) _
  rw [e2] at hrun
  unfold maxLen at hle
  clear hG hi hz0 hz1 hz2 e2
  go_enter Try.func22, Try.ntmps22
  go_wp2_with (at_builtin; refine Lib.wpList_append_run _ rfl _ _ _ _ rfl _ _ rfl rfl _ _ hrun ?_)
  go_ret
  exact ⟨_, rfl, HO.out, b2⟩
set_option maxHeartbeats 1000000 in
theorem concat_any (w : World) (g : Nat) (v1 v2 : Value) (l1 l2 : List Int) (c0 : w.cell? ⟨g, 0, none⟩ = some v1) (c1 : w.cell? ⟨g, 1, none⟩ = some v2) (h1 : Rd w v1 l1) (h2 : Rd w v2 l2) (hp : 1 ≤ l2.length) (hlen : l1.length + l2.length ≤ 140737488355328) :
    Calls Try.prog 18 #[.slice (some ⟨g, 0, none⟩) 2 2] w fun e w' => ∃ u, e = .returned u ∧ Own w' w.heap.size u (l1 ++ l2) ∧ Below w.heap.size w w' := by
  have H1 : Hid (Rd w v1 l1) := h1
  have H2 : Hid (Rd w v2 l2) := h2
  have hg : g < w.heap.size := World.block_lt_of_cell? w _ c0
  obtain ⟨ao1, cap1, rfl, -⟩ := h1
  obtain ⟨ao2, cap2, rfl, -⟩ := h2
  obtain ⟨n1, hn1⟩ : ∃ n, l1.length = n := ⟨_, rfl⟩
  obtain ⟨n2, hn2⟩ : ∃ n, l2.length = n := ⟨_, rfl⟩
  rw [hn1] at c0 H1 hlen
  rw [hn2] at c1 H2 hlen hp
  have HN1 := (show Hid _ from hn1)
  have HN2 := (show Hid _ from hn2)
  clear hn1 hn2
  go_enter Try.func18, Try.ntmps18
  go_wp2_with fail
  refine wp_loop_rounds 3 ?_
  rw [rounds_succ]
  go_wp2_with fail
  rw [rounds_succ]
  go_wp2_with fail
  rw [rounds_succ]
  go_wp2_with fail
  refine (grow_any _ _ (n1 + n2) (by omega) (by omega) hlen).mono ?_; rintro e w1 ⟨u, rfl, own1, b1⟩
  have c01 := (b1.cell (p := ⟨g, 0, none⟩) hg).trans c0
  have r1 := H1.out.below b1
  have s1 := b1.size
  go_wp2_with fail
  refine wp_loop_rounds 3 ?_
  rw [rounds_succ]
  go_wp2_with (at_builtin; refine app_wp rfl _ _ rfl w.heap.size _ [] rfl (by exact own1) _ l1 rfl (by exact r1) (by rw [HN1.out]; simp; omega) s1 ?_; intro u2 w2 own2 b2)
  have b12 := b1.trans b2
  have c12 := (b12.cell (p := ⟨g, 1, none⟩) hg).trans c1
  have r2 := H2.out.below b12
  have s2 := b12.size
  rw [List.nil_append] at own2
  rw [rounds_succ]
  go_wp2_with (at_builtin; refine app_wp rfl _ _ rfl w.heap.size _ l1 rfl (by exact own2) _ l2 rfl (by exact r2) (by rw [HN1.out, HN2.out]; omega) s2 ?_; intro u3 w3 own3 b3)
  rw [rounds_succ]
  go_wp2_with fail
  go_ret
  exact ⟨_, rfl, own3, b12.trans b3⟩
set_option maxHeartbeats 400000 in
theorem seal_any (w : World) (v : Value) (l : List Int) (hb : Bytes l) (h : Rd w v l) (hlen : l.length + 4 ≤ 140737488355328) :
    Calls Try.prog 12 #[v] w fun e w' => ∃ u, e = .returned u ∧ Own w' w.heap.size u (l ++ four (sum l)) ∧ Below w.heap.size w w' := by
  have HB : Hid (Bytes l) := hb
  have H : Hid (Rd w v l) := h
  obtain ⟨ao, cap, rfl, hc, hm, hz, h3⟩ := h
  obtain ⟨n, hn⟩ : ∃ n, l.length = n := ⟨_, rfl⟩
  rw [hn] at hc H hlen ⊢
  have HN := (show Hid _ from hn)
  clear hn h3 hb hz
  go_enter Try.func12, Try.ntmps12
  go_wp2_with fail
  refine (bytesOf_any _ _ l HB.out H.out).mono ?_; rintro e w1 ⟨u, rfl, own1, b1⟩
  have HO : Hid (Own w1 w.heap.size u (four (sum l))) := own1
  obtain ⟨g, cp, rfl, -⟩ := own1.form (by simp [four])
  rw [four_len] at HO ⊢
  clear own1
  go_wp2_with fail
  have ba : ∀ o, Below w1.heap.size w1 (w1.alloc o) := fun o => (Below.refl _ _).alloc (Nat.le_refl _) _
  refine (concat_any _ w1.heap.size _ _ l (four (sum l)) (by simp) (by simp) ((H.out.below b1).below (ba _)) (HO.out.rd.below (ba _)) (by rw [four_len]; omega) (by rw [four_len, HN.out]; omega)).mono ?_
  rintro e w2 ⟨u2, rfl, own2, b2⟩
  have b3 := bthen ((b1.trans ((ba _).mono b1.size))) b2
  have own3 := own2.mono (B' := w.heap.size) (by have := b1.size; simp; omega)
  go_wp2_with fail
  go_ret
  exact ⟨_, rfl, own3, b3⟩
def fourC (s : Nat) : Obj := .cells #[.int .u8 ((s : Int) / 16777216), .int .u8 ((s : Int) / 65536 % 256), .int .u8 ((s : Int) / 256 % 256), .int .u8 ((s : Int) % 256)] 5
theorem rd_four (w : World) (s : Nat) (hs : s < 4294967296) : Rd (w.alloc (fourC s)) (.slice (some ⟨w.heap.size, 0, none⟩) 4 4) (four s) := by
  have := (Own.new w w.heap.size (Nat.le_refl _) (four s) 4 rfl (by omega)).rd
  rw [four_cells] at this
  unfold fourC
  rw [show (s : Int) / 16777216 = ((s / 16777216 % 256 : Nat) : Int) by omega, show (s : Int) / 65536 % 256 = ((s / 65536 % 256 : Nat) : Int) by omega,
    show (s : Int) / 256 % 256 = ((s / 256 % 256 : Nat) : Int) by omega, show (s : Int) % 256 = ((s % 256 : Nat) : Int) by omega]
  exact this
set_option maxHeartbeats 400000 in
theorem rseal_any (w : World) (v : Value) (l : List Int) (hb : Bytes l) (h : Rd w v l) (hlen : l.length + 4 ≤ 140737488355328) :
    Calls Try.prog 13 #[v] w fun e w' => ∃ u, e = .returned u ∧ Own w' w.heap.size u (l ++ four (sum l)) ∧ Below w.heap.size w w' := by
  have HB : Hid (Bytes l) := hb
  have H : Hid (Rd w v l) := h
  have hs := sum_lt hb
  obtain ⟨ao, cap, rfl, hc, hm, hz, h3⟩ := h
  obtain ⟨n, hn⟩ : ∃ n, l.length = n := ⟨_, rfl⟩
  rw [hn] at hc H hlen ⊢
  have HN := (show Hid _ from hn)
  clear hn h3 hb hz
  obtain ⟨s, hse⟩ : ∃ s, sum l = s := ⟨_, rfl⟩
  have HS := (show Hid _ from hse)
  rw [hse] at hs ⊢
  clear hse
  have HO : Hid (Own (w.alloc (.cells #[] 5)) w.heap.size (.slice (some ⟨w.heap.size, 0, none⟩) 0 0) []) := Own.new w w.heap.size (Nat.le_refl _) [] 0 rfl (by omega)
  have HR : Hid (Rd (w.alloc (.cells #[] 5)) (.slice ao n cap) l) := H.out.below ((Below.refl _ w).alloc (Nat.le_refl _) _)
  go_enter Try.func13, Try.ntmps13
  go_wp2_with fail
  refine (rsum_any _ _ l HB.out H.out).mono ?_; rw [HS.out]; rintro e w1 ⟨rfl, rfl⟩
  go_wp2_with (first
    | (at_builtin; refine app_wp rfl (.tmp 6) (.tmp 7) rfl w1.heap.size _ [] rfl (by exact HO.out) _ l rfl (by exact HR.out) (by rw [HN.out]; simp; omega) (by simp) ?_; intro u2 w2 own2 b2; rw [List.nil_append] at own2; have R4 := rd_four w2 s hs; have o2 := own2.below ((Below.refl _ w2).alloc (Nat.le_refl _) (fourC s)); have z2 := b2.size)
    | (at_builtin; refine app_wp rfl (.tmp 8) (.tmp 23) rfl w1.heap.size _ l rfl (by exact o2) _ (four s) rfl (by exact R4) (by rw [HN.out, four_len]; omega) (by simp at z2 ⊢; omega) ?_; intro u3 w3 own3 b3))
  go_ret
  refine ⟨_, rfl, own3, ?_⟩
  have ba := (Below.refl w1.heap.size w1).alloc (Nat.le_refl _) (.cells #[] 5)
  exact ((ba.trans b2).alloc (by simp at z2; omega) _).trans b3
end Go.Proofs.Ythofloblheodbaa
