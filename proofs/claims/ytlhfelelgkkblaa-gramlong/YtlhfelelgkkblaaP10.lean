/-
  Texts Rec7, Rec9, Rec10, Rec11, Rec12 in one.
-/
import Derived.Test.YtlhfelelgkkblaaP9
namespace Go.Proofs.Ytlhfelelgkkblaa
open Go.RowKit
set_option linter.unusedVariables false

theorem doc_put (w : World) (x : Int) (hx : S64 x) : Calls Try.prog 79 #[.int .i64 x] w fun e w' => ∃ v, e = .returned v ∧ Own w' w.heap.size v (put (zig x)) ∧ Below w.heap.size w w' := by
  have bz := zig_bd hx
  go_enter Try.func79, Try.ntmps79
  go_wp2_with fail
  refine (rzig_any x hx _).mono ?_; rintro e w1 ⟨rfl, rfl⟩
  go_wp2_with fail
  refine (rput_any (zig x) bz.1 bz.2 _).mono ?_; rintro e w2 ⟨u, rfl, own2, b2⟩
  go_wp2_with fail
  go_ret
  exact ⟨_, rfl, own2, b2⟩
set_option maxRecDepth 8000 in
set_option maxHeartbeats 4000000 in
theorem doc_write (w : World) (r : Rc) (last : Int) (ok : r.ok) (hl : S64 last) : Calls Try.prog 46 #[recV r, .int .i64 last] w fun e w' => ∃ v, e = .returned (.tuple #[v, .int .i64 (wrE r last)]) ∧ Own w' w.heap.size v (wrB r last) ∧ Below w.heap.size w w' := by
  have OK : Hid r.ok := ok
  clear ok
  obtain ⟨c, hc⟩ : ∃ c, chk r = c := ⟨_, rfl⟩
  obtain ⟨e, he⟩ : ∃ e, wrE r last = e := ⟨_, rfl⟩
  obtain ⟨l, hll⟩ : ∃ l, wrB r last = l := ⟨_, rfl⟩
  have HC : Hid (chk r = c) := hc
  have HE : Hid (e = if c = 0 then (if last < -1 ∨ 65535 < last then 3 else if r.i ≤ last then 10 else 0) else c) := by rw [← he, ← hc]; rfl
  have HL : Hid (l = if e = 0 then put (r.i - last - 1) ++ r.k :: bodyB r else []) := by rw [← hll, ← he]; rfl
  rw [he, hll]
  clear hc he hll
  obtain ⟨l0, l1⟩ := hl
  obtain ⟨k, i, p0, p1, p2, v0, v1, v2, a⟩ := r
  go_enter Try.func46, Try.ntmps46
  go_wp2_with fail
  generalize hW : w.alloc (.cells (recA ⟨k, i, p0, p1, p2, v0, v1, v2, a⟩) 50) = W
  obtain ⟨A0, B0, Z0⟩ := boxed hW
  clear hW
  refine (doc_check _ ⟨k, i, p0, p1, p2, v0, v1, v2, a⟩).mono ?_; rw [HC.out]; rintro e' w2 ⟨rfl, b1⟩
  have A1 := A0.below b1 (by omega)
  have B1 := bthen B0 b1
  have zlt : w.heap.size < W.heap.size := by omega
  have s1 := b1.size
  have B00 : Hid (Below w.heap.size w W) := B0
  have A00 := A0
  clear A0 Z0 B0
  by_cases h0 : c = 0
  · have HE2 : Hid (e = if last < -1 ∨ 65535 < last then 3 else if i ≤ last then 10 else 0) := by have h := HE.out; rw [if_pos h0] at h; exact h
    clear HE
    subst h0
    have CK := chk_ok HC.out
    obtain ⟨⟨k0, k1⟩, ⟨i0, i1⟩, _, _⟩ := CK
    simp only at k0 k1 i0 i1
    have x1 := A1.cell 1 _ rfl
    have la := A1.lt
    by_cases h1 : last < -1
    · go_wp2_with fail
      go_ret2
      obtain rfl : e = 3 := by rw [HE2.out, if_pos (by omega)]
      exact ⟨_, rfl, by rw [HL.out, if_neg (by omega)]; exact Own.nil _ _, B1⟩
    by_cases h1' : 65535 < last
    · go_wp2_with fail
      go_ret2
      obtain rfl : e = 3 := by rw [HE2.out, if_pos (by omega)]
      exact ⟨_, rfl, by rw [HL.out, if_neg (by omega)]; exact Own.nil _ _, B1⟩
    by_cases h2 : i ≤ last
    · go_wp2_with fail
      go_ret2
      obtain rfl : e = 10 := by rw [HE2.out, if_neg (by omega), if_pos h2]
      exact ⟨_, rfl, by rw [HL.out, if_neg (by omega)]; exact Own.nil _ _, B1⟩
    · have e0 : e = 0 := by rw [HE2.out, if_neg (by omega), if_neg h2]
      have L0 := HL.out
      rw [if_pos e0] at L0
      have HL2 : Hid (l = put (i - last - 1) ++ k :: bodyB ⟨k, i, p0, p1, p2, v0, v1, v2, a⟩) := L0
      have HP := put_id (i := i) (last := last) (by omega) i1 (by omega)
      obtain ⟨d, hd⟩ : ∃ d, i - last - 1 = d := ⟨_, rfl⟩
      have bd : 0 ≤ d ∧ d ≤ 65535 := by omega
      rw [hd] at HL2 HP
      subst e0
      clear HE2 HL L0 HC
      obtain ⟨d0, d1⟩ := bd
      obtain ⟨H, hH⟩ : ∃ H, w.heap.size = H := ⟨_, rfl⟩
      have HB1 : Hid (Below H w w2) := by rw [← hH]; exact B1
      rw [hH] at A1 A00 zlt x1 la
      clear B1
      have y0_0 := A1.cell 0 _ rfl
      have y1_0 := A1.cell 1 _ rfl
      have wk : IntKind.u8.wrap k = k := by rw [IntKind.wrap_u8]; omega
      have B2 : Hid (Below W.heap.size W w2) := b1
      have wa : IntKind.i64.wrap (i - last) = i - last := by rw [IntKind.wrap_i64]; omega
      have wb : IntKind.i64.wrap d = d := by rw [IntKind.wrap_i64]; omega
      have wd : IntKind.u64.wrap d = d := by rw [IntKind.wrap_u64]; omega
      go_wp2_with fail
      go_cut [7] from 30 to 41 (fun v wx => Own wx W.heap.size v (put d ++ [k]) ∧ Below W.heap.size W wx)
      case first =>
        go_region_held_law (fun w' => w'.cell? ⟨H, 0, none⟩ = some (.int .i64 k) ∧ w'.cell? ⟨H, 1, none⟩ = some (.int .i64 i)) (first | with_reducible exact ⟨y0_7, y1_7⟩ | with_reducible exact ⟨y0_5, y1_5⟩ | with_reducible exact ⟨y0_0, y1_0⟩ | go_keep)
          (first
            | (go_at_call 44; (with_reducible refine (rput_any d d0 (by omega) _).mono ?_); rintro e' w5 ⟨u5, rfl, own5, b5⟩; have A5 := Blk.below (by first | exact A1.drew | exact A1.drew.alloc _) b5 (by first | exact A1.lt | (simp; omega)); have O5 : Own w5 W.heap.size u5 (put d) := own5.mono (by first | exact s1 | (simp; omega)); have B5 : Below W.heap.size W w5 := by first | exact bup B2.out.drew (Nat.le_refl _) b5 | exact bup (B2.out.drew.alloc (by simp; omega) _) (Nat.le_refl _) b5
               have s5 := B5.size; have y0_5 := A5.cell 0 _ rfl; have y1_5 := A5.cell 1 _ rfl)
            | (refine app_step rfl (some 41) rfl _ _ rfl W.heap.size _ (put d) rfl (by first | exact O5 | exact O5.below ((Below.refl _ _).alloc (Nat.le_refl _) _)) _ [k] rfl (by first | exact (Rd.one w2.drew k).below b5 | exact Rd.one w5 k) (by simp; omega) (by first | omega | (simp; omega)) ?_; intro u7 w7 own7 b7; (try simp only [Act.put, List.setIfInBounds_toArray, List.set_cons_zero, List.set_cons_succ]); have A7 := Blk.below (by first | exact A5 | exact A5.alloc _) b7 zlt; have B7 : Below W.heap.size W w7 := by first | exact B5.trans b7 | exact (B5.alloc (by omega) _).trans b7
               have y0_7 := A7.cell 0 _ rfl; have y1_7 := A7.cell 1 _ rfl))
        all_goals (go_wp2_with fail; go_meet; exact ⟨own7, B7⟩)
      case rest =>
        obtain ⟨O7, B7⟩ := hcut
        have A7 := A00.below B7 zlt
        have s7 := B7.size
        have HO7 : Hid (Own wc W.heap.size u7 (put d ++ [k])) := O7
        have len7 : (put d ++ [k]).length ≤ 4 := by rw [List.length_append]; simp; omega
        clear A1 b1 B2 HB1 y0_0 y1_0 x1 la O7 wa wb wd hd s1
        have y0 := A7.cell 0 _ rfl
        have y1 := A7.cell 1 _ rfl
        have y2 := A7.cell 2 _ rfl
        have y3 := A7.cell 3 _ rfl
        have y4 := A7.cell 4 _ rfl
        have y5 := A7.cell 5 _ rfl
        have y6 := A7.cell 6 _ rfl
        have y7 := A7.cell 7 _ rfl
        have y8 := A7.cell 8 _ rfl
        have l7 := A7.lt
        go_wp2_with fail
        refine (doc_numbers _ ⟨k, i, p0, p1, p2, v0, v1, v2, a⟩).mono ?_; rintro e' w3 ⟨rfl, b3⟩
        have A8 := A7.below b3 l7
        have O8 := Own.below HO7.out b3
        have B8 := bup B7 (Nat.le_refl _) b3
        have s8 := B8.size
        clear y0 y1 y2 y3 y4 y5 y6 y7 y8 A7 HO7 B7 b3 l7
        have y8 := A8.cell 8 _ rfl
        have l8 := A8.lt
        have NA := Blk.apart O8 (Nat.le_refl w3.heap.size)
        have ba := OK.out.a
        simp only at ba
        obtain ⟨a0, a1⟩ := ba
        have la3 := put_a (x := a) ⟨a0, a1⟩
        have HO8 : Hid (Own w3 W.heap.size u7 (put d ++ [k])) := O8
        clear O8
        go_wp2_with fail
        generalize hW3 : w3.alloc (.cells #[.int .i64 p0, .int .i64 p1, .int .i64 p2, .int .i64 v0, .int .i64 v1, .int .i64 v2] 104) = W3
        obtain ⟨N0, B9, Z3⟩ := boxed hW3
        have O9 := Own.below HO8.out B9
        have A9 := A8.below B9 l8
        have B9' := bup B8 (Nat.le_refl _) B9
        have s9 := B9.size
        clear hW3
        refine (rput_any a a0 (by omega) _).mono ?_; rintro e' w4 ⟨u9, rfl, own9, b9⟩
        have AP : Apart u9 u7 := Apart.new own9 O9
        have O10 := Own.below O9 b9
        have A10 := A9.below b9 A9.lt
        have B10 := bup B9' (Nat.le_refl _) b9
        have N1 := N0.below b9 N0.lt
        have s10 := b9.size
        obtain ⟨M, hM⟩ : ∃ M, w3.heap.size = M := ⟨_, rfl⟩
        rw [hM] at N1 NA
        try rw [hM]
        have O9' := own9.mono (B' := W.heap.size) (by omega)
        have HO10 : Hid (Own w4 W.heap.size u7 (put d ++ [k])) := O10
        have H9 : Hid (Own w4 W.heap.size u9 (put a)) := O9'
        have HN1 : Hid (Blk w4 M [.int .i64 p0, .int .i64 p1, .int .i64 p2, .int .i64 v0, .int .i64 v1, .int .i64 v2]) := N1
        have HAP : Hid (Apart u9 u7) := AP
        have HNA : Hid (some M ≠ u7.ownBlock) := NA
        have z0 := A10.cell 0 _ rfl
        have z8 := A10.cell 8 _ rfl
        have l10 := A10.lt
        have OKN : Hid (∀ x ∈ nums ⟨k, i, p0, p1, p2, v0, v1, v2, a⟩, S64 x) := OK.out.nums
        obtain ⟨ns, hns⟩ : ∃ ns, nums ⟨k, i, p0, p1, p2, v0, v1, v2, a⟩ = ns := ⟨_, rfl⟩
        have nl : ns.length = 6 := by rw [← hns]; rfl
        have HNS : Hid (∀ w j, Blk w M [.int .i64 p0, .int .i64 p1, .int .i64 p2, .int .i64 v0, .int .i64 v1, .int .i64 v2] → j < 6 → w.cell? ⟨M, j, none⟩ = some (.int .i64 (ns.getD j 0))) := by
          intro w' j h hj
          rw [← hns]
          match j, hj with
          | 0, _ => exact h.cell 0 _ rfl
          | 1, _ => exact h.cell 1 _ rfl
          | 2, _ => exact h.cell 2 _ rfl
          | 3, _ => exact h.cell 3 _ rfl
          | 4, _ => exact h.cell 4 _ rfl
          | 5, _ => exact h.cell 5 _ rfl
        have HBD : Hid (l = put d ++ k :: (if k = 1 then (mask ns + if a = 0 then 0 else 64) :: (zn ns ++ if a = 0 then [] else put a) else if k = 2 then [] else zs ns ++ put a)) := by
          have h := HL2.out
          rw [h, ← hns]
          rfl
        rw [hns] at OKN
        have HNL : Hid (ns.length = 6) := nl
        clear hns nl HL2 O10 O9' N1 AP NA A8 A9 B8 B9 B9' N0 own9 b9 O9 Z3 HO8 y8 l8 OK
        by_cases g2 : k = 2
        · have HB2 : Hid (l = put d ++ [k]) := by have h := HBD.out; rw [if_neg (by omega), if_pos g2] at h; exact h
          clear HBD
          subst g2
          go_wp2_with fail
          go_ret2
          subst hH
          exact ⟨_, rfl, by rw [HB2.out]; exact HO10.out.mono (by omega), bup B00.out (Nat.le_refl _) B10⟩
        by_cases g1 : k = 1
        · have HBU : Hid (l = put d ++ k :: ((mask ns + if a = 0 then 0 else 64) :: (zn ns ++ if a = 0 then [] else put a))) := by have h := HBD.out; rw [if_pos g1] at h; exact h
          clear HBD
          subst g1
          go_wp2_with fail
          go_loopw [11, 12, 13, 14] (fun mv bv v x wr => ∃ j : Nat, j ≤ 6 ∧ x = .int .i64 j ∧ mv = .int .u8 (mask (ns.take j)) ∧ bv = .int .u8 (2 ^ j) ∧ Own wr W.heap.size v (zn (ns.take j)) ∧ Own wr W.heap.size u7 (put d ++ [1]) ∧ Own wr W.heap.size u9 (put a) ∧ Apart u9 v ∧ Apart u7 v ∧ Blk wr M [.int .i64 p0, .int .i64 p1, .int .i64 p2, .int .i64 v0, .int .i64 v1, .int .i64 v2] ∧ some M ≠ v.ownBlock ∧ Below W.heap.size W wr) (fun _ _ _ x _ => 6 - (intOf x).toNat)
          case atStart => exact ⟨0, by omega, rfl, rfl, rfl, Own.nil _ _, HO10.out, H9.out, Apart.nil _, Apart.nil _, HN1.out, by simp [Value.ownBlock], B10⟩
          case round =>
            obtain ⟨j, hj, rfl, rfl, rfl, q1, q7, q2, q3, q8, q4, q5, q6⟩ := hrel
            have s11 := q6.size
            have HL : (zn (ns.take j)).length ≤ 60 := by
              have h1 := zn_len (ns.take j) (fun n hn => OKN.out n (List.mem_of_mem_take hn))
              have h2 : (ns.take j).length ≤ j := List.length_take_le _ _
              omega
            have mb := mask_take ns j (by rw [HNL.out]; omega)
            have Q1 : Hid (Own wr W.heap.size u13 (zn (ns.take j))) := q1
            have Q2 : Hid (Own wr W.heap.size u9 (put a)) := q2
            have Q3 : Hid (Apart u9 u13) := q3
            have Q4 : Hid (Blk wr M [.int .i64 p0, .int .i64 p1, .int .i64 p2, .int .i64 v0, .int .i64 v1, .int .i64 v2]) := q4
            have Q5 : Hid (some M ≠ u13.ownBlock) := q5
            have Q7 : Hid (Own wr W.heap.size u7 (put d ++ [1])) := q7
            have Q8 : Hid (Apart u7 u13) := q8
            have lM := q4.lt
            clear q1 q2 q3 q5 q7 q8
            by_cases hlt : j < 6
            · have hc := HNS.out wr j q4 hlt
              clear q4
              have bx := OKN.out _ (getD_mem (l := ns) (k := j) (by rw [HNL.out]; exact hlt))
              have HE : Hid (zn (ns.take (j + 1)) = zn (ns.take j) ++ (if ns.getD j 0 = 0 then [] else put (zig (ns.getD j 0)))) := zn_snoc ns j (by rw [HNL.out]; exact hlt)
              have HM : Hid (mask (ns.take (j + 1)) = mask (ns.take j) + (if ns.getD j 0 = 0 then 0 else 2 ^ j)) := mask_snoc ns j (by rw [HNL.out]; exact hlt)
              have hp : (2 : Int) ^ j ≤ 32 := by
                have : (2 : Nat) ^ j ≤ 2 ^ 5 := Nat.pow_le_pow_right (by omega) (by omega)
                have e : ((2 ^ j : Nat) : Int) = (2 : Int) ^ j := by simp
                omega
              obtain ⟨x, hxx⟩ : ∃ x, ns.getD j 0 = x := ⟨_, rfl⟩
              rw [hxx] at hc bx HE HM
              clear hxx
              obtain ⟨m, hm⟩ : ∃ m, mask (ns.take j) = m := ⟨_, rfl⟩
              obtain ⟨b, hb⟩ : ∃ b, (2 : Int) ^ j = b := ⟨_, rfl⟩
              rw [hm, hb] at mb HM
              rw [hb] at hp
              rw [hm, hb]
              have HB2 : Hid ((2 : Int) ^ (j + 1) = b * 2) := (by rw [Int.pow_succ, hb] : (2 : Int) ^ (j + 1) = b * 2)
              clear hm hb
              obtain ⟨m0, m1⟩ := mb
              by_cases hx1 : x = 0
              · subst hx1
                go_wp2_with fail
                go_roundw
                case rel => exact ⟨j + 1, by omega, by go_num, by rw [HM.out]; simp, by rw [HB2.out], by rw [HE.out]; simpa using Q1.out, Q7.out, Q2.out, Q3.out, Q8.out, Q4.out, Q5.out, q6⟩
                case measure => simp [intOf]; omega
              · have HE2 : Hid (zn (ns.take (j + 1)) = zn (ns.take j) ++ put (zig x)) := by have h := HE.out; rw [if_neg hx1] at h; exact h
                have HM2 : Hid (mask (ns.take (j + 1)) = m + b) := by have h := HM.out; rw [if_neg hx1] at h; exact h
                have bz := zig_bd bx
                have pz := put_ten bz.1 bz.2
                go_wp2_with fail
                refine (doc_put _ x bx).mono ?_; rintro e' w5 ⟨u, rfl, own5, b5⟩
                have C1 := Own.below Q1.out b5
                have C2 := Own.below Q2.out b5
                have C7 := Own.below Q7.out b5
                have C4 := Q4.out.below b5 lM
                have C6 := bup q6 (Nat.le_refl _) b5
                have s12 := C6.size
                go_wp2_with (at_builtin; refine grow_wp rfl _ _ rfl W.heap.size _ (zn (ns.take j)) rfl (by exact C1) _ (put (zig x)) rfl (by exact own5.rd) (put_ne _) (by omega) (by omega) ?_; intro u6 w6 own6 gr6)
                have D2 := Own.grow C2 Q3.out gr6
                have D7 := Own.grow C7 Q8.out gr6
                have D4 := Blk.grow C4 Q5.out gr6
                have D6 := C6.trans gr6.below
                go_roundw
                case rel => exact ⟨j + 1, by omega, by go_num, by rw [HM2.out], by rw [HB2.out], by rw [HE2.out]; exact own6, D7.1, D2.1, D2.2, D7.2, D4.1, D4.2, D6⟩
                case measure => simp [intOf]; omega
            · obtain rfl : j = 6 := by omega
              clear q4
              have E1 : ns.take 6 = ns := List.take_of_length_le (by rw [HNL.out]; omega)
              rw [E1] at Q1 mb HL
              rw [E1]
              obtain ⟨m, hm⟩ : ∃ m, mask ns = m := ⟨_, rfl⟩
              obtain ⟨q, hq⟩ : ∃ q, zn ns = q := ⟨_, rfl⟩
              rw [hm] at mb HBU
              rw [hq] at Q1 HL HBU
              rw [hm]
              clear hm hq E1
              obtain ⟨m0, m1⟩ := mb
              have A11 := A00.below q6 zlt
              have z8' := A11.cell 8 _ rfl
              have l11 := A11.lt
              clear z8
              by_cases hz : a = 0
              · subst hz
                go_wp2_with (at_builtin; first | (refine grow_wp rfl _ _ rfl W.heap.size _ (put d ++ [1]) rfl (by exact Q7.out.below ((Below.refl _ _).alloc (Nat.le_refl _) _)) _ [m] rfl (by exact Rd.one wr m) (by simp) (by simp; omega) (by simp; omega) ?_; intro u6 w6 own6 gr6; have C1 := Own.grow (Q1.out.below ((Below.refl _ _).alloc (Nat.le_refl _) _)) Q8.out.symm gr6; have B6 := (q6.alloc q6.size (.cells #[.int .u8 m] 5)).trans gr6.below; have s13 := B6.size) | (refine app_wp rfl _ _ rfl W.heap.size _ ((put d ++ [1]) ++ [m]) rfl (by exact own6) _ q rfl (by exact C1.1.rd) (by simp; omega) (by omega) ?_; intro u8 w8 own8 b8))
                go_ret2
                subst hH
                refine ⟨_, rfl, ?_, bup B00.out (Nat.le_refl _) (B6.trans b8)⟩
                have h := own8.mono (B' := w.heap.size) (by omega)
                rw [HBU.out]
                simpa [List.append_assoc] using h
              · have pa := put_pos a
                go_wp2_with (at_builtin; first | (refine grow_wp rfl _ _ rfl W.heap.size _ q rfl (by exact Q1.out) _ (put a) rfl (by exact Q2.out.rd) (put_ne _) (by omega) (by omega) ?_; intro u5 w5 own5 gr5; have C7 := Own.grow Q7.out Q8.out gr5; have B5 := q6.trans gr5.below; have s12 := B5.size; have O5 : Hid (Own w5 W.heap.size u5 (q ++ put a)) := own5; clear own5; have Q1 := trivial) | (refine grow_wp rfl _ _ rfl W.heap.size _ (put d ++ [1]) rfl (by exact C7.1.below ((Below.refl _ _).alloc (Nat.le_refl _) _)) _ [m + 64] rfl (by exact Rd.one w5 (m + 64)) (by simp) (by simp; omega) (by simp; omega) ?_; intro u6 w6 own6 gr6; have C1 := Own.grow (O5.out.below ((Below.refl _ _).alloc (Nat.le_refl _) _)) C7.2.symm gr6; have B6 := (B5.alloc B5.size (.cells #[.int .u8 (m + 64)] 5)).trans gr6.below; have s13 := B6.size) | (refine app_wp rfl _ _ rfl W.heap.size _ ((put d ++ [1]) ++ [m + 64]) rfl (by exact own6) _ (q ++ put a) rfl (by exact C1.1.rd) (by simp; omega) (by omega) ?_; intro u8 w8 own8 b8))
                go_ret2
                subst hH
                refine ⟨_, rfl, ?_, bup B00.out (Nat.le_refl _) (B6.trans b8)⟩
                have h := own8.mono (B' := w.heap.size) (by omega)
                have h' := HBU.out
                rw [if_neg hz, if_neg hz] at h'
                rw [h']
                simpa [List.append_assoc] using h
        have HBW : Hid (l = put d ++ k :: (zs ns ++ put a)) := by have h := HBD.out; rw [if_neg g1, if_neg g2] at h; exact h
        clear HBD
        by_cases g0 : k = 0
        · subst g0
          go_wp2_with fail
          go_loopw [10, 7] (fun x v wr => ∃ j : Nat, j ≤ 6 ∧ x = .int .i64 j ∧ Own wr W.heap.size v ((put d ++ [0]) ++ zs (ns.take j)) ∧ Own wr W.heap.size u9 (put a) ∧ Apart u9 v ∧ Blk wr M [.int .i64 p0, .int .i64 p1, .int .i64 p2, .int .i64 v0, .int .i64 v1, .int .i64 v2] ∧ some M ≠ v.ownBlock ∧ Below W.heap.size W wr) (fun x _ _ => 6 - (intOf x).toNat)
          case atStart => exact ⟨0, by omega, rfl, by simpa [zs] using HO10.out, H9.out, HAP.out, HN1.out, HNA.out, B10⟩
          case round =>
            obtain ⟨j, hj, rfl, q1, q2, q3, q4, q5, q6⟩ := hrel
            have s11 := q6.size
            have HL : (zs (ns.take j)).length ≤ 60 := by
              have h1 := zs_len (ns.take j) (fun n hn => OKN.out n (List.mem_of_mem_take hn))
              have h2 : (ns.take j).length ≤ j := List.length_take_le _ _
              omega
            have HL2 : ((put d ++ [(0 : Int)]) ++ zs (ns.take j)).length ≤ 64 := by rw [List.length_append]; omega
            obtain ⟨L, hL⟩ : ∃ L, (put d ++ [(0 : Int)]) ++ zs (ns.take j) = L := ⟨_, rfl⟩
            rw [hL] at q1 HL2
            have Q1 : Hid (Own wr W.heap.size u7 L) := q1
            have Q2 : Hid (Own wr W.heap.size u9 (put a)) := q2
            have Q3 : Hid (Apart u9 u7) := q3
            have Q4 : Hid (Blk wr M [.int .i64 p0, .int .i64 p1, .int .i64 p2, .int .i64 v0, .int .i64 v1, .int .i64 v2]) := q4
            have Q5 : Hid (some M ≠ u7.ownBlock) := q5
            have QL : Hid ((put d ++ [(0 : Int)]) ++ zs (ns.take j) = L) := hL
            have lM := q4.lt
            clear q1 q2 q3 q5 hL
            by_cases hlt : j < 6
            · have hc := HNS.out wr j q4 hlt
              clear q4
              have bx := OKN.out _ (getD_mem (l := ns) (k := j) (by rw [HNL.out]; exact hlt))
              have HE : Hid (zs (ns.take (j + 1)) = zs (ns.take j) ++ put (zig (ns.getD j 0))) := zs_snoc ns j (by rw [HNL.out]; exact hlt)
              obtain ⟨x, hxx⟩ : ∃ x, ns.getD j 0 = x := ⟨_, rfl⟩
              rw [hxx] at hc bx HE
              clear hxx
              have bz := zig_bd bx
              have pz := put_ten bz.1 bz.2
              go_wp2_with fail
              refine (doc_put _ x bx).mono ?_; rintro e' w5 ⟨u, rfl, own5, b5⟩
              have C1 := Own.below Q1.out b5
              have C2 := Own.below Q2.out b5
              have C4 := Q4.out.below b5 lM
              have C6 := bup q6 (Nat.le_refl _) b5
              have s12 := C6.size
              go_wp2_with (at_builtin; refine grow_wp rfl _ _ rfl W.heap.size _ L rfl (by exact C1) _ (put (zig x)) rfl (by exact own5.rd) (put_ne _) (by omega) (by omega) ?_; intro u6 w6 own6 gr6)
              have D2 := Own.grow C2 Q3.out gr6
              have D4 := Blk.grow C4 Q5.out gr6
              have D6 := C6.trans gr6.below
              go_roundw
              case rel => exact ⟨j + 1, by omega, by go_num, by rw [HE.out, ← List.append_assoc, QL.out]; exact own6, D2.1, D2.2, D4.1, D4.2, D6⟩
              case measure => simp [intOf]; omega
            · obtain rfl : j = 6 := by omega
              have EQ : Hid (L = (put d ++ [(0 : Int)]) ++ zs ns) := by
                have h := QL.out
                rw [List.take_of_length_le (by rw [HNL.out]; omega)] at h
                exact h.symm
              clear q4
              go_wp2_with (at_builtin; refine app_wp rfl _ _ rfl W.heap.size _ L rfl (by exact Q1.out) _ (put a) rfl (by exact Q2.out.rd) (by omega) (by omega) ?_; intro u6 w6 own6 b6)
              go_ret2
              subst hH
              refine ⟨_, rfl, ?_, bup B00.out (Nat.le_refl _) (q6.trans b6)⟩
              have h := own6.mono (B' := w.heap.size) (by omega)
              rw [EQ.out] at h
              rw [HBW.out]
              simpa [List.append_assoc] using h
        · have g3 : k = 3 := by omega
          subst g3
          go_wp2_with fail
          go_loopw [10, 7] (fun x v wr => ∃ j : Nat, j ≤ 6 ∧ x = .int .i64 j ∧ Own wr W.heap.size v ((put d ++ [3]) ++ zs (ns.take j)) ∧ Own wr W.heap.size u9 (put a) ∧ Apart u9 v ∧ Blk wr M [.int .i64 p0, .int .i64 p1, .int .i64 p2, .int .i64 v0, .int .i64 v1, .int .i64 v2] ∧ some M ≠ v.ownBlock ∧ Below W.heap.size W wr) (fun x _ _ => 6 - (intOf x).toNat)
          case atStart => exact ⟨0, by omega, rfl, by simpa [zs] using HO10.out, H9.out, HAP.out, HN1.out, HNA.out, B10⟩
          case round =>
            obtain ⟨j, hj, rfl, q1, q2, q3, q4, q5, q6⟩ := hrel
            have s11 := q6.size
            have HL : (zs (ns.take j)).length ≤ 60 := by
              have h1 := zs_len (ns.take j) (fun n hn => OKN.out n (List.mem_of_mem_take hn))
              have h2 : (ns.take j).length ≤ j := List.length_take_le _ _
              omega
            have HL2 : ((put d ++ [(3 : Int)]) ++ zs (ns.take j)).length ≤ 64 := by rw [List.length_append]; omega
            obtain ⟨L, hL⟩ : ∃ L, (put d ++ [(3 : Int)]) ++ zs (ns.take j) = L := ⟨_, rfl⟩
            rw [hL] at q1 HL2
            have Q1 : Hid (Own wr W.heap.size u7 L) := q1
            have Q2 : Hid (Own wr W.heap.size u9 (put a)) := q2
            have Q3 : Hid (Apart u9 u7) := q3
            have Q4 : Hid (Blk wr M [.int .i64 p0, .int .i64 p1, .int .i64 p2, .int .i64 v0, .int .i64 v1, .int .i64 v2]) := q4
            have Q5 : Hid (some M ≠ u7.ownBlock) := q5
            have QL : Hid ((put d ++ [(3 : Int)]) ++ zs (ns.take j) = L) := hL
            have lM := q4.lt
            clear q1 q2 q3 q5 hL
            by_cases hlt : j < 6
            · have hc := HNS.out wr j q4 hlt
              clear q4
              have bx := OKN.out _ (getD_mem (l := ns) (k := j) (by rw [HNL.out]; exact hlt))
              have HE : Hid (zs (ns.take (j + 1)) = zs (ns.take j) ++ put (zig (ns.getD j 0))) := zs_snoc ns j (by rw [HNL.out]; exact hlt)
              obtain ⟨x, hxx⟩ : ∃ x, ns.getD j 0 = x := ⟨_, rfl⟩
              rw [hxx] at hc bx HE
              clear hxx
              have bz := zig_bd bx
              have pz := put_ten bz.1 bz.2
              go_wp2_with fail
              refine (doc_put _ x bx).mono ?_; rintro e' w5 ⟨u, rfl, own5, b5⟩
              have C1 := Own.below Q1.out b5
              have C2 := Own.below Q2.out b5
              have C4 := Q4.out.below b5 lM
              have C6 := bup q6 (Nat.le_refl _) b5
              have s12 := C6.size
              go_wp2_with (at_builtin; refine grow_wp rfl _ _ rfl W.heap.size _ L rfl (by exact C1) _ (put (zig x)) rfl (by exact own5.rd) (put_ne _) (by omega) (by omega) ?_; intro u6 w6 own6 gr6)
              have D2 := Own.grow C2 Q3.out gr6
              have D4 := Blk.grow C4 Q5.out gr6
              have D6 := C6.trans gr6.below
              go_roundw
              case rel => exact ⟨j + 1, by omega, by go_num, by rw [HE.out, ← List.append_assoc, QL.out]; exact own6, D2.1, D2.2, D4.1, D4.2, D6⟩
              case measure => simp [intOf]; omega
            · obtain rfl : j = 6 := by omega
              have EQ : Hid (L = (put d ++ [(3 : Int)]) ++ zs ns) := by
                have h := QL.out
                rw [List.take_of_length_le (by rw [HNL.out]; omega)] at h
                exact h.symm
              clear q4
              go_wp2_with (at_builtin; refine app_wp rfl _ _ rfl W.heap.size _ L rfl (by exact Q1.out) _ (put a) rfl (by exact Q2.out.rd) (by omega) (by omega) ?_; intro u6 w6 own6 b6)
              go_ret2
              subst hH
              refine ⟨_, rfl, ?_, bup B00.out (Nat.le_refl _) (q6.trans b6)⟩
              have h := own6.mono (B' := w.heap.size) (by omega)
              rw [EQ.out] at h
              rw [HBW.out]
              simpa [List.append_assoc] using h
  · go_wp2_with fail
    go_ret2
    obtain rfl : e = c := by rw [HE.out, if_neg h0]
    exact ⟨_, rfl, by rw [HL.out, if_neg (by omega)]; exact Own.nil _ _, B1⟩
end Go.Proofs.Ytlhfelelgkkblaa

namespace Go.Proofs.Ytlhfelelgkkblaa
open Go.RowKit
set_option linter.unusedVariables false
attribute [local go_sem ↓] eqR_run eq6_run

/-- The differences of an Update. -/
def updR (a b : En) : Rc := ⟨1, b.i, wrap64 (b.p0 - a.p0), wrap64 (b.p1 - a.p1), wrap64 (b.p2 - a.p2), wrap64 (b.v0 - a.v0), wrap64 (b.v1 - a.v1), wrap64 (b.v2 - a.v2), IntKind.u16.wrap (b.a - a.a)⟩
/-- The record that makes b of a. -/
def difR (a b : En) : Rc := if entB a b = true then noRec else if a.g = b.g then updR a b else ⟨3, b.i, b.p0, b.p1, b.p2, b.v0, b.v1, b.v2, b.a⟩
theorem Blk.far {w : World} {b c j : Nat} {cs : List Value} (h : Blk w b cs) (hne : c ≠ b) (v : Value) : Blk (w.setCell ⟨c, j, none⟩ v).drew b cs := (h.other (p := ⟨c, j, none⟩) hne v).drew
theorem Blk.put {w : World} {b j : Nat} {cs : List Value} (h : Blk w b cs) (v : Value) (hj : j < cs.length) : Blk (w.setCell ⟨b, j, none⟩ v).drew b (cs.set j v) := (h.set j v hj).drew
theorem boxed4 {w W : World} {a b c d : Array Value} {t1 t2 t3 t4 : TypeId} (h : (((w.alloc (.cells a t1)).alloc (.cells b t2)).alloc (.cells c t3)).alloc (.cells d t4) = W) :
    Blk W w.heap.size a.toList ∧ Blk W (w.heap.size + 1) b.toList ∧ Blk W (w.heap.size + 1 + 1) c.toList ∧ Blk W (w.heap.size + 1 + 1 + 1) d.toList ∧ Below w.heap.size w W := by
  subst h
  refine ⟨(((Blk.new w _ _ rfl).alloc _).alloc _).alloc _, ((Blk.new _ _ _ (by simp)).alloc _).alloc _, (Blk.new _ _ _ (by simp)).alloc _, Blk.new _ _ _ (by simp), ?_⟩
  exact ((((Below.refl _ _).alloc (Nat.le_refl _) _).alloc (by simp) _).alloc (by simp; omega) _).alloc (by simp; omega) _
/-- A block of nine cells is written whole. -/
theorem Blk.nine {w : World} {b : Nat} {c0 c1 c2 c3 c4 c5 c6 c7 c8 x0 x1 x2 x3 x4 x5 x6 x7 x8 : Value} (h : Blk w b [c0, c1, c2, c3, c4, c5, c6, c7, c8]) :
    Blk (((((((((w.setCell ⟨b, 0, none⟩ x0).setCell ⟨b, 1, none⟩ x1).setCell ⟨b, 2, none⟩ x2).setCell ⟨b, 3, none⟩ x3).setCell ⟨b, 4, none⟩ x4).setCell ⟨b, 5, none⟩ x5).setCell ⟨b, 6, none⟩ x6).setCell ⟨b, 7, none⟩ x7).setCell ⟨b, 8, none⟩ x8) b [x0, x1, x2, x3, x4, x5, x6, x7, x8] :=
  ((((((((h.set 0 x0 (by simp)).set 1 x1 (by simp)).set 2 x2 (by simp)).set 3 x3 (by simp)).set 4 x4 (by simp)).set 5 x5 (by simp)).set 6 x6 (by simp)).set 7 x7 (by simp)).set 8 x8 (by simp)
theorem below_nine {B : Nat} {a w : World} {b : Nat} {x0 x1 x2 x3 x4 x5 x6 x7 x8 : Value} (h : Below B a w) (hb : B ≤ b) :
    Below B a (((((((((w.setCell ⟨b, 0, none⟩ x0).setCell ⟨b, 1, none⟩ x1).setCell ⟨b, 2, none⟩ x2).setCell ⟨b, 3, none⟩ x3).setCell ⟨b, 4, none⟩ x4).setCell ⟨b, 5, none⟩ x5).setCell ⟨b, 6, none⟩ x6).setCell ⟨b, 7, none⟩ x7).setCell ⟨b, 8, none⟩ x8) :=
  ((((((((h.setCell hb _).setCell hb _).setCell hb _).setCell hb _).setCell hb _).setCell hb _).setCell hb _).setCell hb _).setCell hb _
end Go.Proofs.Ytlhfelelgkkblaa

namespace Go.Proofs.Ytlhfelelgkkblaa
open Go.RowKit
set_option linter.unusedVariables false
attribute [local go_sem ↓] eqR_run eq6_run

/-- An entity with an Update's differences added. -/
def addE (a : En) (r : Rc) : En := ⟨a.i, wrap64 (a.p0 + r.p0), wrap64 (a.p1 + r.p1), wrap64 (a.p2 + r.p2), wrap64 (a.v0 + r.v0), wrap64 (a.v1 + r.v1), wrap64 (a.v2 + r.v2), IntKind.u16.wrap (a.a + r.a), a.g⟩
/-- An entity that is elsewhere at once. -/
def jumpE (a : En) (r : Rc) : En := ⟨a.i, r.p0, r.p1, r.p2, r.v0, r.v1, r.v2, r.a, (a.g + 1) % 256⟩
def appE (a : En) (r : Rc) : Int := if chk r = 0 then (if r.k = 0 ∨ r.k = 2 ∨ r.i ≠ a.i then 15 else 0) else chk r
def appN (a : En) (r : Rc) : En := if appE a r = 0 then (if r.k = 3 then jumpE a r else addE a r) else noEnt
theorem boxed3 {w W : World} {a b c : Array Value} {t1 t2 t3 : TypeId} (h : ((w.alloc (.cells a t1)).alloc (.cells b t2)).alloc (.cells c t3) = W) :
    Blk W w.heap.size a.toList ∧ Blk W (w.heap.size + 1) b.toList ∧ Blk W (w.heap.size + 1 + 1) c.toList ∧ Below w.heap.size w W ∧ W.heap.size = w.heap.size + 1 + 1 + 1 := by
  subst h
  refine ⟨((Blk.new w _ _ rfl).alloc _).alloc _, (Blk.new _ _ _ (by simp)).alloc _, Blk.new _ _ _ (by simp), ?_, by simp⟩
  exact (((Below.refl _ _).alloc (Nat.le_refl _) _).alloc (by simp) _).alloc (by simp; omega) _
end Go.Proofs.Ytlhfelelgkkblaa

namespace Go.Proofs.Ytlhfelelgkkblaa
open Go.RowKit
set_option linter.unusedVariables false

theorem wr_back {a b : Int} (hb : S64 b) : wrap64 (a + wrap64 (b - a)) = b := by unfold S64 at hb; unfold wrap64; omega
theorem wr_zero {a b : Int} (ha : S64 a) (hb : S64 b) (h : wrap64 (b - a) = 0) : a = b := by unfold S64 at ha hb; unfold wrap64 at h; omega
theorem w16_back {a b : Int} (hb : 0 ≤ b ∧ b ≤ 65535) : IntKind.u16.wrap (a + IntKind.u16.wrap (b - a)) = b := by rw [IntKind.wrap_u16, IntKind.wrap_u16]; omega
theorem w16_zero {a b : Int} (ha : 0 ≤ a ∧ a ≤ 65535) (hb : 0 ≤ b ∧ b ≤ 65535) (h : IntKind.u16.wrap (b - a) = 0) : a = b := by rw [IntKind.wrap_u16] at h; omega
/-- By an Update. -/
theorem made_upd {a b : En} (ha : a.ok) (hb : b.ok) (hi : a.i = b.i) (h0 : 0 ≤ a.i) (h1 : a.i ≤ 65535) (hg : a.g = b.g) (hne : entB a b = false) :
    difR a b = updR a b ∧ chk (updR a b) = 0 ∧ appE a (updR a b) = 0 ∧ appN a (updR a b) = b := by
  have e1 : difR a b = updR a b := by unfold difR; rw [hne, if_neg (by simp), if_pos hg]
  have hem : emptyB (updR a b) = false := by
    cases e : emptyB (updR a b)
    · rfl
    · obtain ⟨⟨q0, q1, q2, q3, q4, q5⟩, q6⟩ := (emptyB_iff _).1 e
      have : a = b := by
        have k0 := wr_zero ha.p0 hb.p0 q0
        have k1 := wr_zero ha.p1 hb.p1 q1
        have k2 := wr_zero ha.p2 hb.p2 q2
        have k3 := wr_zero ha.v0 hb.v0 q3
        have k4 := wr_zero ha.v1 hb.v1 q4
        have k5 := wr_zero ha.v2 hb.v2 q5
        have k6 := w16_zero ha.a hb.a q6
        cases a; cases b
        simp only at hi hg k0 k1 k2 k3 k4 k5 k6
        subst hi hg k0 k1 k2 k3 k4 k5 k6
        rfl
      rw [this, entB_same] at hne
      exact absurd hne (by simp)
  have e2 : chk (updR a b) = 0 := by
    unfold chk
    rw [hem]
    have hk : (updR a b).k = 1 := rfl
    have hj : (updR a b).i = b.i := rfl
    rw [hk, hj, if_neg (by omega), if_neg (by omega), if_neg (by simp)]
  have e3 : appE a (updR a b) = 0 := by
    have hk : (updR a b).k = 1 := rfl
    have hj : (updR a b).i = b.i := rfl
    unfold appE
    rw [if_pos e2, hk, hj, if_neg (by omega)]
  refine ⟨e1, e2, e3, ?_⟩
  have hk : (updR a b).k = 1 := rfl
  unfold appN
  rw [if_pos e3, hk, if_neg (by omega)]
  unfold addE updR
  simp only [wr_back hb.p0, wr_back hb.p1, wr_back hb.p2, wr_back hb.v0, wr_back hb.v1, wr_back hb.v2, w16_back hb.a, hi, hg]
/-- By a Teleport. -/
theorem made_jump {a b : En} (hi : a.i = b.i) (h0 : 0 ≤ a.i) (h1 : a.i ≤ 65535) (hg : b.g = (a.g + 1) % 256) (hag : 0 ≤ a.g ∧ a.g ≤ 255) :
    entB a b = false ∧ difR a b = ⟨3, b.i, b.p0, b.p1, b.p2, b.v0, b.v1, b.v2, b.a⟩ ∧ chk (difR a b) = 0 ∧ appE a (difR a b) = 0 ∧ appN a (difR a b) = b := by
  have hne : a.g ≠ b.g := by omega
  have e0 : entB a b = false := entB_no (fun h => hne (by rw [h]))
  have e1 : difR a b = ⟨3, b.i, b.p0, b.p1, b.p2, b.v0, b.v1, b.v2, b.a⟩ := by unfold difR; rw [e0, if_neg (by simp), if_neg hne]
  have e2 : chk (difR a b) = 0 := by
    rw [e1]; unfold chk
    rw [if_neg (by simp), if_neg (by simp only; omega), if_neg (by simp)]
  have e3 : appE a (difR a b) = 0 := by
    unfold appE
    rw [if_pos e2, e1, if_neg (by simp only; omega)]
  refine ⟨e0, e1, e2, e3, ?_⟩
  unfold appN
  rw [if_pos e3, e1, if_pos rfl]
  unfold jumpE
  rw [hi, ← hg]
theorem id_bd (x : Int) : 0 ≤ wrap64 ((IntKind.u64.wrap x).tmod 65536) ∧ wrap64 ((IntKind.u64.wrap x).tmod 65536) ≤ 65535 := by
  rw [IntKind.wrap_u64]
  have h : 0 ≤ x % 18446744073709551616 := by omega
  rw [Int.tmod_eq_emod_of_nonneg h]
  unfold wrap64
  omega
theorem Blk.others {w : World} {b c : Nat} {cs : List Value} {x0 x1 x2 x3 x4 x5 x6 x7 x8 : Value} (h : Blk w c cs) (hn : b ≠ c) :
    Blk (((((((((w.setCell ⟨b, 0, none⟩ x0).setCell ⟨b, 1, none⟩ x1).setCell ⟨b, 2, none⟩ x2).setCell ⟨b, 3, none⟩ x3).setCell ⟨b, 4, none⟩ x4).setCell ⟨b, 5, none⟩ x5).setCell ⟨b, 6, none⟩ x6).setCell ⟨b, 7, none⟩ x7).setCell ⟨b, 8, none⟩ x8) c cs :=
  ((((((((h.other (p := ⟨b, 0, none⟩) hn x0).other (p := ⟨b, 1, none⟩) hn x1).other (p := ⟨b, 2, none⟩) hn x2).other (p := ⟨b, 3, none⟩) hn x3).other (p := ⟨b, 4, none⟩) hn x4).other (p := ⟨b, 5, none⟩) hn x5).other (p := ⟨b, 6, none⟩) hn x6).other (p := ⟨b, 7, none⟩) hn x7).other (p := ⟨b, 8, none⟩) hn x8
theorem boxed2 {w W : World} {a b : Array Value} {t1 t2 : TypeId} (h : (w.alloc (.cells a t1)).alloc (.cells b t2) = W) :
    Blk W w.heap.size a.toList ∧ Blk W (w.heap.size + 1) b.toList ∧ Below w.heap.size w W := by
  subst h
  exact ⟨(Blk.new w _ _ rfl).alloc _, Blk.new _ _ _ (by simp), ((Below.refl _ _).alloc (Nat.le_refl _) _).alloc (by simp) _⟩
end Go.Proofs.Ytlhfelelgkkblaa

namespace Go.Proofs.Ytlhfelelgkkblaa
open Go.RowKit
set_option linter.unusedVariables false

/-- All but the blocks R and M is as it was; new blocks may lie behind. -/
structure Ch2 (R M : Nat) (w w' : World) : Prop where
  below : Below R w w'
  past : ∀ g, R < g → g ≠ M → g < w.heap.size → w'.heap[g]? = w.heap[g]?
theorem Ch2.size {R M : Nat} {w w' : World} (h : Ch2 R M w w') : w.heap.size ≤ w'.heap.size := h.below.size
theorem Ch2.refl (R M : Nat) (w : World) : Ch2 R M w w := ⟨Below.refl _ _, fun _ _ _ _ => rfl⟩
theorem Ch2.trans {R M : Nat} {a b c : World} (h : Ch2 R M a b) (k : Ch2 R M b c) : Ch2 R M a c :=
  ⟨h.below.trans k.below, fun g h1 h2 h3 => (k.past g h1 h2 (Nat.lt_of_lt_of_le h3 h.size)).trans (h.past g h1 h2 h3)⟩
theorem Ch.two {R M : Nat} {w w' : World} (h : Ch R w w') : Ch2 R M w w' := ⟨h.below, fun g h1 _ h3 => h.past g h1 h3⟩
theorem Ch2.set {R M : Nat} {a w : World} (h : Ch2 R M a w) (hM : R ≤ M) (o : Nat) (u : Value) : Ch2 R M a (w.setCell ⟨M, o, none⟩ u) :=
  ⟨h.below.setCell hM u, fun g h1 h2 h3 => (Below.heap_setCell w _ u g (by simp only [ne_eq]; omega)).trans (h.past g h1 h2 h3)⟩
theorem Ch2.block {R M : Nat} {w w' : World} (h : Ch2 R M w w') {g : Nat} (h1 : g ≠ R) (h2 : g ≠ M) (hs : g < w.heap.size) : w'.heap[g]? = w.heap[g]? := by
  rcases Nat.lt_or_gt_of_ne h1 with k | k
  · exact h.below.block g k
  · exact h.past g k h2 hs
/-- If the second block was not there. -/
theorem Ch2.one {R M : Nat} {a w w' : World} (h : Ch R a w) (k : Ch2 R M w w') (hM : a.heap.size ≤ M) : Ch R a w' :=
  ⟨h.below.trans k.below, fun g h1 h2 => (k.past g h1 (by omega) (Nat.lt_of_lt_of_le h2 h.size)).trans (h.past g h1 h2)⟩
theorem Blk.ch2 {R M : Nat} {w w' : World} {b : Nat} {cs : List Value} (h : Blk w b cs) (k : Ch2 R M w w') (h1 : b ≠ R) (h2 : b ≠ M) : Blk w' b cs := by
  have e := k.block h1 h2 h.lt
  exact ⟨Nat.lt_of_lt_of_le h.lt k.size, fun o ho => (World.cell?_of_block (w := w) (a := ⟨b, o, none⟩) e).trans (h.all o ho), fun o => (World.frozen?_of_block (w := w) (a := ⟨b, o, none⟩) e).trans (h.froz o)⟩

/-! what is read -/
def othS (x : Int) (s : St) : St := if x = 0 then failS s 7 else s
def bitB (m : Int) (k : Nat) : Bool := decide (m / 2 ^ k % 2 = 1)
def stepA (b : Bool) (s : St) : Int := if b then intA s else 0
def stepS (b : Bool) (s : St) : St := if b then othS (intA s) (intS s) else s
/-- How the reader stands behind k of an Update's numbers. -/
def difS (m : Int) (s : St) : Nat → St
  | 0 => s
  | k + 1 => stepS (bitB m k) (difS m s k)
def difA (m : Int) (s : St) (k : Nat) : Int := stepA (bitB m k) (difS m s k)
def angA (b : Bool) (s : St) : Int := if b then uintA 65535 s else 0
def angS (b : Bool) (s : St) : St := if b then othS (uintA 65535 s) (uintS 65535 s) else s
def badM (m : Int) : Bool := decide (m = 0 ∨ 127 < m)
/-- How the reader stands behind an Update's byte. -/
def mskS (s : St) : St := if badM (byteA s) then failS (byteS s) 7 else byteS s
def updT (s : St) (r : Rc) : Rc := ⟨r.k, r.i, difA (byteA s) (mskS s) 0, difA (byteA s) (mskS s) 1, difA (byteA s) (mskS s) 2, difA (byteA s) (mskS s) 3, difA (byteA s) (mskS s) 4, difA (byteA s) (mskS s) 5, angA (bitB (byteA s) 6) (difS (byteA s) (mskS s) 6)⟩
def updS (s : St) : St := angS (bitB (byteA s) 6) (difS (byteA s) (mskS s) 6)
def whoT (s : St) (r : Rc) : Rc := ⟨r.k, r.i, intA s, intA (intS s), intA (intS (intS s)), intA (vecS s), intA (intS (vecS s)), intA (intS (intS (vecS s))), uintA 65535 (vecS (vecS s))⟩
def whoS (s : St) : St := uintS 65535 (vecS (vecS s))
/-- Behind the Id and the Kind. -/
def hdS (s : St) (last : Int) : St := byteS (uintS (65534 - last) s)
def hdI (s : St) (last : Int) : Int := last + 1 + uintA (65534 - last) s
def hdK (s : St) (last : Int) : Int := byteA (uintS (65534 - last) s)
def takT (s : St) (last : Int) : Rc :=
  if last = 65535 then noRec else if 4 ≤ hdK s last then noRec else
  let r : Rc := ⟨hdK s last, hdI s last, 0, 0, 0, 0, 0, 0, 0⟩
  if hdK s last = 1 then updT (hdS s last) r else if hdK s last = 2 then r else whoT (hdS s last) r
def takS (s : St) (last : Int) : St :=
  if last = 65535 then failS s 10 else if 4 ≤ hdK s last then failS (hdS s last) 11 else
  if hdK s last = 1 then updS (hdS s last) else if hdK s last = 2 then hdS s last else whoS (hdS s last)
def lastB (last : Int) : Bool := decide (-1 ≤ last ∧ last ≤ 65535)
def redS (s : St) (last : Int) : St := if lastB last then takS s last else s
def redE (s : St) (last : Int) : Int := if lastB last then (takS s last).e else 3
def redT (s : St) (last : Int) : Rc := if lastB last then (if (takS s last).e = 0 then takT s last else noRec) else noRec

/-! where a reader has failed nothing is taken -/
theorem failS_e {s : St} (x : Int) (h : s.e ≠ 0) : failS s x = s := by unfold failS; rw [if_neg h]
theorem byteS_e {s : St} (h : s.e ≠ 0) : byteS s = s ∧ byteA s = 0 := by unfold byteS byteA; rw [if_neg h, if_neg h]; exact ⟨rfl, rfl⟩
theorem uintS_e {s : St} (m : Int) (h : s.e ≠ 0) : uintS m s = s ∧ uintA m s = 0 := by unfold uintS uintA; rw [if_neg h, if_neg h]; exact ⟨rfl, rfl⟩
theorem intS_e {s : St} (h : s.e ≠ 0) : intS s = s ∧ intA s = 0 := by
  have := uintS_e top64 h
  unfold intS intA; rw [this.1, this.2]; exact ⟨rfl, by decide⟩
theorem stepS_e {s : St} (b : Bool) (h : s.e ≠ 0) : stepS b s = s ∧ stepA b s = 0 := by
  have := intS_e h
  unfold stepS stepA othS
  rw [this.1, this.2]
  cases b
  · exact ⟨rfl, rfl⟩
  · simp [failS_e 7 h]
theorem difS_e {s : St} (m : Int) (h : s.e ≠ 0) : ∀ k, difS m s k = s
  | 0 => rfl
  | k + 1 => by show stepS _ _ = _; rw [difS_e m h k]; exact (stepS_e _ h).1
theorem difA_e {s : St} (m : Int) (k : Nat) (h : s.e ≠ 0) : difA m s k = 0 := by unfold difA; rw [difS_e m h]; exact (stepS_e _ h).2
theorem angS_e {s : St} (b : Bool) (h : s.e ≠ 0) : angS b s = s ∧ angA b s = 0 := by
  have := uintS_e 65535 h
  unfold angS angA othS
  rw [this.1, this.2]
  cases b
  · exact ⟨rfl, rfl⟩
  · simp [failS_e 7 h]
theorem mskS_bad {s : St} (h : badM (byteA s) = true) : (mskS s).e ≠ 0 := by
  unfold mskS; rw [if_pos h]
  unfold failS
  split
  · simp
  · assumption
/-- An Update's byte that is none: nothing behind it. -/
theorem upd_bad {s : St} {r : Rc} (h : badM (byteA s) = true) (hr : emptyB r = true) : updT s r = r ∧ updS s = failS (byteS s) 7 := by
  have he := mskS_bad h
  have hm : mskS s = failS (byteS s) 7 := by unfold mskS; rw [if_pos h]
  obtain ⟨⟨q0, q1, q2, q3, q4, q5⟩, q6⟩ := (emptyB_iff r).1 hr
  refine ⟨?_, ?_⟩
  · unfold updT
    rw [difA_e _ _ he, difA_e _ _ he, difA_e _ _ he, difA_e _ _ he, difA_e _ _ he, difA_e _ _ he, difS_e _ he, (angS_e _ he).2]
    cases r
    simp only at q0 q1 q2 q3 q4 q5 q6
    subst q0 q1 q2 q3 q4 q5 q6
    rfl
  · unfold updS
    rw [difS_e _ he, (angS_e _ he).1, hm]
end Go.Proofs.Ytlhfelelgkkblaa
