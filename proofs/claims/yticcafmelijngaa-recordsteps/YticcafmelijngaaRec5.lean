/-
  Layer 8 (record): what stands behind an Update's kind: writeUpdate.
-/
import Derived.Test.YticcafmelijngaaRec4
namespace Go.Proofs.Yticcafmelijngaa
open Go.RowKit
set_option linter.unusedVariables false

theorem Own.built (w : World) (B : Nat) (hB : B ≤ w.heap.size) (l : List Int) (n : Nat) (hn : l.length = n) (hl : n ≤ 9223372036854775807) : Own (w.alloc (.cells (u8s l).toArray 5)) B (.slice (some ⟨w.heap.size, 0, none⟩) n n) l := by
  subst hn
  refine ⟨by rw [u8s_len, Nat.mul_one], Or.inr ⟨w.heap.size, l.length, (u8s l).toArray, rfl, hB, heap_alloc_new w _, Nat.le_refl _, hl, ?_, ?_⟩⟩
  · simp [u8s]
  · rw [Nat.mul_one, ← u8s_len l]; simp
set_option maxRecDepth 8000 in
set_option maxHeartbeats 1000000 in
theorem rec_writeUpdate (w : World) (r : Rc) (ok : r.ok) : Calls Try.prog 16 #[recV r] w fun e w' => ∃ v, e = .returned v ∧ Own w' w.heap.size v (updB r) ∧ Below w.heap.size w w' := by
  have OK : Hid r.ok := ok
  clear ok
  go_enter Try.func16, Try.ntmps16
  go_wp2_with fail
  generalize hW : w.alloc (.cells (recA r) 29) = W
  obtain ⟨A0, B0, Z0⟩ := boxed hW
  have OW : Own (W.alloc (.cells #[.int .u8 0] 5)) W.heap.size (.slice (some ⟨W.heap.size, 0, none⟩) 1 1) [0] := Own.built W _ (Nat.le_refl _) [0] 1 rfl (by omega)
  have BW : Below W.heap.size W (W.alloc (.cells #[.int .u8 0] 5)) := (Below.refl _ _).alloc (Nat.le_refl _) _
  clear hW
  rw [← Z0]
  have zlt : w.heap.size < W.heap.size := by omega
  clear Z0
  generalize hW2 : W.alloc (.cells #[.int .u8 0] 5) = W2 at OW BW ⊢
  clear hW2
  refine (rec_signed _ r).mono ?_; rintro e w1 ⟨rfl, b1⟩
  obtain ⟨cs, hcs, sz, hat⟩ := num_letter r
  have HCS : Hid (∀ k, k < 6 → cs[k]? = some (.int .i64 ((nums r).getD k 0))) := hat
  have O1 := OW.below b1
  have B1 := bthen BW b1
  have B1' : Hid (Below W.heap.size W w1) := B1
  have O1' : Hid (Own w1 W.heap.size (.slice (some ⟨W.heap.size, 0, none⟩) 1 1) [0]) := O1
  rw [hcs]
  clear hcs hat BW b1 B1 O1 OW
  go_wp2_with fail
  go_loopw [9, 3] (fun i v wr => ∃ k : Nat, k ≤ 6 ∧ i = .int .i64 k ∧ Own wr W.heap.size v (mask ((nums r).take k) :: zn ((nums r).take k)) ∧ Below W.heap.size W wr) (fun i _ _ => 6 - (intOf i).toNat)
  case atStart => exact ⟨0, by omega, rfl, O1'.out, B1'.out⟩
  case round =>
    obtain ⟨k, hk, rfl, hown, hbl⟩ := hrel
    have HO : Hid (Own wr W.heap.size u3 (mask ((nums r).take k) :: zn ((nums r).take k))) := hown
    have HL : (zn ((nums r).take k)).length ≤ 60 := by
      have h1 := zn_len ((nums r).take k) (fun n hn => OK.out.nums n (List.mem_of_mem_take hn))
      have h2 : ((nums r).take k).length ≤ k := List.length_take_le _ _
      omega
    have s1 := hbl.size
    clear hown
    by_cases hlt : k < 6
    · have hx0 := HCS.out k hlt
      have bx := OK.out.nums _ (getD_mem (k := k) (by rw [nums_len]; exact hlt))
      have HE : Hid (zn ((nums r).take (k + 1)) = zn ((nums r).take k) ++ (if (nums r).getD k 0 = 0 then [] else put (zig ((nums r).getD k 0)))) := zn_snoc (nums r) k (by rw [nums_len]; exact hlt)
      have HM : Hid (mask ((nums r).take (k + 1)) = mask ((nums r).take k) + (if (nums r).getD k 0 = 0 then 0 else 2 ^ k)) := mask_snoc (nums r) k (by rw [nums_len]; exact hlt)
      have hmb := mask_take (nums r) k (by rw [nums_len]; omega)
      obtain ⟨x, hxx⟩ : ∃ x, (nums r).getD k 0 = x := ⟨_, rfl⟩
      rw [hxx] at hx0 bx HE HM
      clear hxx
      obtain ⟨m, hm⟩ : ∃ m, mask ((nums r).take k) = m := ⟨_, rfl⟩
      rw [hm] at hmb HM HO
      have hx := index6 cs k x hlt hx0 wr
      clear hx0
      by_cases hx1 : x = 0
      · subst hx1
        go_wp2_with fail
        go_roundw
        case rel => exact ⟨k + 1, by omega, by go_num, by rw [HE.out, HM.out]; simpa using HO.out, hbl⟩
        case measure => simp [intOf]; omega
      · have HP : Hid (bits .or .u8 m (2 ^ k) = m + 2 ^ k) := or_pow (by omega) hmb.1 hmb.2
        obtain ⟨g, cap, hu, hg, hgl, hc, hcm, hat⟩ := HO.out.form (by simp)
        have HO2 := HO
        rw [hu] at HO2
        subst hu
        have c0 := HO2.out.cell 0 (by simp)
        have f0 := HO2.out.free 0
        simp only [List.getD_cons_zero] at c0
        clear hat HO
        obtain ⟨n, hn⟩ : ∃ n, (m :: zn ((nums r).take k)).length = n := ⟨_, rfl⟩
        have hn1 : 1 ≤ n ∧ n ≤ 61 := by rw [← hn, List.length_cons]; omega
        rw [hn] at hc HO2
        rw [hn]
        have HN : Hid ((m :: zn ((nums r).take k)).length = n) := hn
        clear hn
        have bz := zig_bd bx
        have hp : (2 : Int) ^ k ≤ 32 := by
          have : (2 : Nat) ^ k ≤ 2 ^ 5 := Nat.pow_le_pow_right (by omega) (by omega)
          have e : ((2 ^ k : Nat) : Int) = (2 : Int) ^ k := by simp
          omega
        go_wp2_with fail
        go_region
        rw [HP.out]
        have O3 : Own (wr.setCell ⟨g, 0, none⟩ (.int .u8 (m + 2 ^ k))).drew W.heap.size (.slice (some ⟨g, 0, none⟩) n cap) ((m + 2 ^ k) :: zn ((nums r).take k)) := HO2.out.store 0 (m + 2 ^ k)
        have B3 : Below W.heap.size W (wr.setCell ⟨g, 0, none⟩ (.int .u8 (m + 2 ^ k))).drew := (hbl.setCell hg _).drew
        generalize (wr.setCell ⟨g, 0, none⟩ (.int .u8 (m + 2 ^ k))).drew = W3 at O3 B3 ⊢
        have O3' : Hid (Own W3 W.heap.size (.slice (some ⟨g, 0, none⟩) n cap) ((m + 2 ^ k) :: zn ((nums r).take k))) := O3
        clear O3 c0 f0 HO2 hbl
        have HE2 : Hid (zn ((nums r).take (k + 1)) = zn ((nums r).take k) ++ put (zig x)) := by have h := HE.out; rw [if_neg hx1] at h; exact h
        have HM2 : Hid (mask ((nums r).take (k + 1)) = m + 2 ^ k) := by have h := HM.out; rw [if_neg hx1] at h; exact h
        clear HE HM
        go_wp2_with fail
        refine (zig_any x bx _).mono ?_; rintro e w2 ⟨rfl, rfl⟩
        obtain ⟨z, hz⟩ : ∃ z, zig x = z := ⟨_, rfl⟩
        rw [hz] at bz HE2
        rw [hz]
        clear hz
        obtain ⟨z0, z1⟩ := bz
        go_wp2_with fail
        refine (put_any z z0 z1 _).mono ?_; rintro e w3 ⟨u, rfl, own3, b3⟩
        have O4 := Own.below O3'.out b3
        have l3 := put_ten z0 z1
        have s2 := b3.size
        have s3 := B3.size
        have ln : ((m + 2 ^ k) :: zn ((nums r).take k)).length ≤ 61 := by rw [List.length_cons]; omega
        go_wp2_with (at_builtin; refine app_wp rfl _ _ rfl W.heap.size _ ((m + 2 ^ k) :: zn ((nums r).take k)) rfl (by exact O4) _ (put z) rfl (by exact own3.rd) (by omega) (by omega) ?_; intro u4 w4 own4 b4)
        go_roundw
        case rel => exact ⟨k + 1, by omega, by go_num, by rw [HE2.out, HM2.out]; exact own4, (bup B3 (Nat.le_refl _) b3).trans b4⟩
        case measure => simp [intOf]; omega
    · obtain rfl : k = 6 := by omega
      have A2 := A0.below hbl zlt
      have x8 := A2.cell 8 _ rfl
      have l2 := A2.lt
      have ba := OK.out.a
      obtain ⟨m, hm⟩ : ∃ m, mask ((nums r).take 6) = m := ⟨_, rfl⟩
      obtain ⟨q, hq⟩ : ∃ q, zn ((nums r).take 6) = q := ⟨_, rfl⟩
      have hmb := mask_take (nums r) 6 (by rw [nums_len]; omega)
      rw [hm] at hmb HO
      rw [hq] at HL HO
      have HU : Hid (updB r = (m + if r.a = 0 then 0 else 64) :: (q ++ if r.a = 0 then [] else put r.a)) := by rw [← hm, ← hq]; rfl
      clear hm hq
      obtain ⟨a, ha⟩ : ∃ a, r.a = a := ⟨_, rfl⟩
      rw [ha] at ba x8 HU
      clear ha
      obtain ⟨a0, a1⟩ := ba
      by_cases hz : a = 0
      · subst hz
        go_wp2_with fail
        go_ret
        exact ⟨_, rfl, by rw [HU.out]; simpa using HO.out.mono (by omega), bup B0 (Nat.le_refl _) hbl⟩
      · obtain ⟨g, cap, hu, hg, hgl, hc, hcm, hat⟩ := HO.out.form (by simp)
        have HO2 := HO
        rw [hu] at HO2
        subst hu
        have c0 := HO2.out.cell 0 (by simp)
        have f0 := HO2.out.free 0
        simp only [List.getD_cons_zero] at c0
        clear hat HO
        obtain ⟨n, hn⟩ : ∃ n, (m :: q).length = n := ⟨_, rfl⟩
        have hn1 : 1 ≤ n ∧ n ≤ 61 := by rw [← hn, List.length_cons]; omega
        rw [hn] at hc HO2
        rw [hn]
        clear hn
        have HP : Hid (bits .or .u8 m 64 = m + 64) := or_pow (k := 6) (by omega) hmb.1 hmb.2
        have hgw : g ≠ w.heap.size := by omega
        go_wp2_with fail
        rw [HP.out]
        have O3 : Own (wr.setCell ⟨g, 0, none⟩ (.int .u8 (m + 64))) W.heap.size (.slice (some ⟨g, 0, none⟩) n cap) ((m + 64) :: q) := HO2.out.store 0 (m + 64)
        have B3 : Below W.heap.size W (wr.setCell ⟨g, 0, none⟩ (.int .u8 (m + 64))) := hbl.setCell hg _
        generalize (wr.setCell ⟨g, 0, none⟩ (.int .u8 (m + 64))) = W3 at O3 B3 ⊢
        have O3' : Hid (Own W3 W.heap.size (.slice (some ⟨g, 0, none⟩) n cap) ((m + 64) :: q)) := O3
        clear O3 c0 f0 HO2 hbl
        refine (put_any a a0 (by omega) _).mono ?_; rintro e w3 ⟨u, rfl, own3, b3⟩
        have O4 := Own.below O3'.out b3
        have l3 := put_ten a0 (by omega)
        have s2 := b3.size
        have s3 := B3.size
        have ln : ((m + 64) :: q).length ≤ 61 := by rw [List.length_cons]; omega
        go_wp2_with (at_builtin; refine app_wp rfl _ _ rfl W.heap.size _ ((m + 64) :: q) rfl (by exact O4) _ (put a) rfl (by exact own3.rd) (by omega) (by omega) ?_; intro u4 w4 own4 b4)
        go_ret
        refine ⟨_, rfl, ?_, bup B0 (Nat.le_refl _) ((bup B3 (Nat.le_refl _) b3).trans b4)⟩
        have h := HU.out
        rw [if_neg hz, if_neg hz] at h
        rw [h]; exact own4.mono (by omega)
end Go.Proofs.Yticcafmelijngaa
