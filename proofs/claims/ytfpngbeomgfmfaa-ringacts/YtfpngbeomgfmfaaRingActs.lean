/-
  Proved: of any calls each answer is the document's, the numbers in order, what is at them, and the greatest one that went (the law RingActs answers true at every input).
  Conditions: none.
-/
import Derived.Test.YtfpngbeomgfmfaaRows
import Derived.Test.YtfpngbeomgfmfaaFr11
import Derived.Test.YtfpngbeomgfmfaaRg14
namespace Go.Proofs.Ytfpngbeomgfmfaa
open Go.ChangeShapes Go.WideShapes Go.ChangeAt Go.RowKit
set_option linter.unusedVariables false

namespace RingActsL
theorem own : ownKnob Try.prog.godebug = none := by kernel_rfl

/-- Things are texts. -/
def StrT (L : List Pr) : Prop := ∀ p ∈ L, ∃ b, p.2 = .string b
theorem strT_lay {s : Rs} (h : StrT s.L) (k : Int) (t : ByteArray) : StrT (layS s k (.string t)).L := by
  have hl : StrT (laid s.L k (.string t)) := fun p hp => by
    rcases mem_laid.1 hp with rfl | hp
    · exact ⟨t, rfl⟩
    · exact h p hp
  unfold layS
  split
  · exact h
  split
  · exact h
  split
  · exact hl
  · exact fun p hp => hl p (List.mem_of_mem_tail hp)
theorem strT_get {L : List Pr} (h : StrT L) (k : Int) : ∃ b, getX L k (.string ⟨#[]⟩) = .string b := by
  unfold getX
  split
  · rename_i hat
    have hl : untl L k - 1 < L.length := by
      have := untl_le L k
      unfold isAt at hat; simp at hat; omega
    obtain ⟨p, hp, _, e⟩ := keyAt_mem hl
    obtain ⟨b, hb⟩ := h p hp
    exact ⟨b, by rw [← e, hb]⟩
  · exact ⟨_, rfl⟩
set_option maxRecDepth 20000 in
set_option maxHeartbeats 8000000 in
theorem walk (w : World) (n : Int) (hn : (Lit.int .i64 n).wf = true) (va : Value) (m : Nat) (A : Nat → Int × Int × ByteArray) (hA : ∀ i, i < m → (-9223372036854775808 ≤ (A i).2.1 ∧ (A i).2.1 ≤ 9223372036854775807)) (hl : RdT w va m A) :
    Calls Try.prog 3 #[.int .i64 n, va] w fun e w' => e = .returned (.bool true) ∧ Below w.heap.size w w' := by
  obtain ⟨ao, cap, rfl, h1, h2, h3⟩ := hl
  have P3 : Hid _ := h3
  have HA : Hid (∀ i, i < m → (-9223372036854775808 ≤ (A i).2.1 ∧ (A i).2.1 ≤ 9223372036854775807)) := hA
  clear hn hA h3
  obtain ⟨H, hH⟩ : ∃ H, w.heap.size = H := ⟨_, rfl⟩
  have HH : Hid (w.heap.size = H) := hH
  obtain ⟨hmo1, hmo2⟩ := most_bd n
  obtain ⟨M, hMe⟩ : ∃ M, mostN n = M := ⟨_, rfl⟩
  have HMO : Hid (∀ w', Calls Try.prog 10 #[.int .i64 n] w' fun e w'' => e = .returned (.int .i64 (M : Nat)) ∧ w'' = w') := fun w' => by have := most_any w' n; rw [hMe] at this; exact this
  rw [hMe] at hmo1 hmo2
  clear hMe
  go_enter Try.func3, Try.ntmps3
  go_wp2_with fail
  refine (HMO.out _).mono ?_; rintro e w1 ⟨rfl, rfl⟩
  go_wp2_with fail
  refine (new_anyS _ _ hmo1 hmo2).mono ?_; rintro e w2 ⟨rfl, r2, b2, z2⟩
  rw [hH] at r2 b2
  rw [hH]
  have R2 : Hid (RngV 77 w2 H H (.slice none 0 0) (emptyR M)) := r2
  have B2 : Hid (Below H w1 w2) := b2
  have hz2 : H + 1 ≤ w2.heap.size := by omega
  clear r2 b2 z2 hH
  go_wp2_with fail
  refine (rg_alive _).mono ?_; rintro e w3 ⟨rfl, b3⟩
  have R3 : Hid (RngV 77 w3 H H (.slice none 0 0) (emptyR M)) := R2.out.below b3
  have B3 : Hid (Below H w1 w3) := B2.out.trans (b3.mono (by omega))
  have hz3 : H + 1 ≤ w3.heap.size := Nat.le_trans hz2 b3.size
  clear R2 B2 hz2 b3
  by_cases hbig : 200 < m
  · have d1 : decide ((200 : Int) < (m : Int)) = true := by simp; omega
    go_wp2_with fail
    refine (rg_alive _).mono ?_; rintro e w4 ⟨rfl, b4⟩
    have B4 : Hid (Below H w1 w4) := B3.out.trans (b4.mono (by omega))
    clear b4
    go_wp2_with fail
    go_ret
    exact ⟨rfl, by rw [HH.out]; exact B4.out⟩
  have d1 : decide ((200 : Int) < (m : Int)) = false := by simp; omega
  go_wp2_with fail
  refine (HMO.out _).mono ?_; rintro e w4 ⟨rfl, rfl⟩
  obtain ⟨Rb, hRb⟩ : ∃ Rb, w4.heap.size = Rb := ⟨_, rfl⟩
  obtain ⟨W4, hW4⟩ : ∃ W4, w4.alloc (.cells #[.slice none 0 0, .int .i64 (M : Nat), .int .i64 0, .bool false] 32) = W4 := ⟨_, rfl⟩
  obtain ⟨x1, x2, x3, _⟩ := boxA hW4
  have R4 : Hid (RngV 77 W4 H H (.slice none 0 0) (emptyR M)) := R3.out.below x2
  have B4 : Hid (Below H w1 W4) := B3.out.trans (x2.mono (by omega))
  rw [hRb] at x1
  have hHR : H < Rb := by omega
  have F4 : Hid (RefV W4 Rb Rb (.slice none 0 0) (emptyR M)) := ⟨x1, ⟨none, 0, rfl, Nat.le_refl _, by omega, fun _ => rfl, fun a ha => (by cases ha), fun b o ha => (by cases ha)⟩, empty_ok ⟨hmo1, hmo2⟩, fun p hp => (by cases hp), by simp [Value.ownBlock], Nat.le_refl _⟩
  clear x1 x2 x3 R3 B3 hz3
  go_upto_region 5 with fail
  clear hW4 hRb
  go_wp2_with fail
  go_loopg [63] m (fun g i wr => ∃ (k : Nat) (v u : Value) (s : Rs), k + g = m ∧ i = .int .i64 k ∧ RngV 77 wr H H v s ∧ RefV wr Rb Rb u s ∧ Sep H v Rb u ∧ StrT s.L ∧ Below H w1 wr)
  case atStart => exact ⟨0, _, _, _, by omega, rfl, R4.out, F4.out, ⟨by omega, by simp [Value.ownBlock], by simp [Value.ownBlock], Or.inl rfl⟩, fun p hp => (by cases hp), B4.out⟩
  case round =>
    clear R4 F4 B4
    obtain ⟨k, v, u, s, hk, rfl, hr, hf, hse, hst, hbl⟩ := hrel
    have RR : Hid (RngV 77 wr H H v s) := hr
    have FF : Hid (RefV wr Rb Rb u s) := hf
    have SE : Hid (Sep H v Rb u) := hse
    have ST : Hid (StrT s.L) := hst
    have BB : Hid (Below H w1 wr) := hbl
    have hzr : Rb < wr.heap.size := hf.blk.lt
    clear hr hf hse hst hbl
    by_cases hlt : k < m
    · obtain ⟨b, o, rfl, hat⟩ := P3.out.resolve_left (by omega)
      obtain ⟨c0, c1, c2⟩ := hat k hlt
      have hx := HA.out k hlt
      obtain ⟨⟨kd, key, xs⟩, hq⟩ : ∃ q, A k = q := ⟨_, rfl⟩
      rw [hq] at c0 c1 c2 hx
      simp only at c0 c1 c2 hx
      have hb0 : b < H := by have := World.block_lt_of_cell? w1 _ c0; have := HH.out; simp only at *; omega
      have e0 := (BB.out.cell (p := ⟨b, o + k * 3, none⟩) hb0).trans c0
      have e1 := (BB.out.cell (p := ⟨b, o + k * 3 + 1, none⟩) hb0).trans c1
      have e2 := (BB.out.cell (p := ⟨b, o + k * 3 + 2, none⟩) hb0).trans c2
      clear c0 c1 c2 hat hq
      obtain ⟨nb, hnb⟩ : ∃ x, wr.heap.size = x := ⟨_, rfl⟩
      obtain ⟨W1, hW1⟩ : ∃ W1, wr.alloc (.cells #[.int .i64 kd, .int .i64 key, .string xs] 34) = W1 := ⟨_, rfl⟩
      obtain ⟨y1, y2, y3, _⟩ := boxA hW1
      have RW : Hid (RngV 77 W1 H H v s) := RR.out.below y2
      have FW : Hid (RefV W1 Rb Rb u s) := FF.out.below y2
      have BW : Hid (Below H w1 W1) := BB.out.trans (y2.mono (by omega))
      have NV : Hid (some nb ≠ v.ownBlock) := fun e => by have := (RR.out.own.lt nb e.symm).2; omega
      rw [hnb] at y1
      have YB : Hid (Blk W1 nb [.int .i64 kd, .int .i64 key, .string xs]) := y1
      have cz0 := y1.cell 0 _ rfl
      have cz1 := y1.cell 1 _ rfl
      have cz2 := y1.cell 2 _ rfl
      have hnH : nb ≠ H := by omega
      have hnl := y1.lt
      have hHW : H ≤ W1.heap.size := by omega
      clear y1 y2 y3 RR FF BB
      go_upto_block 2 with fail
      clear hW1 hnb e0 e1 e2
      go_cut [] (fun wx => ∃ v' u' s', RngV 77 wx H H v' s' ∧ RefV wx Rb Rb u' s' ∧ Sep H v' Rb u' ∧ StrT s'.L ∧ Below H w1 wx)
      case first =>
        by_cases k0 : kd = 0
        · subst k0
          go_wp2_with fail
          refine (lay_anyS W1 H H v s RW.out key hx xs).mono ?_; rintro e w6 ⟨rfl, v6, r6, c6⟩
          obtain ⟨f6, se6⟩ := FW.out.chg c6 SE.out
          obtain ⟨yb6, nv6⟩ := YB.out.chg c6 hnH NV.out
          have R6 : Hid (RngV 77 w6 H H v6 (layS s key (.string xs))) := r6
          have F6 : Hid (RefV w6 Rb Rb u s) := f6
          have S6 : Hid (Sep H v6 Rb u) := se6
          have Y6 : Hid (Blk w6 nb [.int .i64 0, .int .i64 key, .string xs]) := yb6
          have B6 : Hid (Below H w1 w6) := BW.out.trans c6.below
          clear r6 f6 se6 yb6 nv6 c6 RW FW YB BW NV cz0 cz1 cz2 SE hHW
          have cz0 := Y6.out.cell 0 _ rfl
          have cz1 := Y6.out.cell 1 _ rfl
          have cz2 := Y6.out.cell 2 _ rfl
          have ST6 : Hid (StrT (layS s key (.string xs)).L) := strT_lay ST.out key xs
          obtain ⟨⟨p1, p2, p3⟩, hp⟩ : ∃ p, layA s key = p := ⟨_, rfl⟩
          have HP : Hid (layA s key = (p1, p2, p3)) := hp
          rw [hp]
          clear hp
          go_wp2_with fail
          refine (ref_lay w6 Rb Rb u s F6.out key hx xs).mono ?_; rintro e w7 ⟨rfl, u7, f7, c7⟩
          obtain ⟨r7, se7⟩ := R6.out.chg c7 S6.out.symm
          have B7 : Hid (Below H w1 w7) := B6.out.trans (c7.below.mono (by omega))
          have R7 : Hid (RngV 77 w7 H H v6 (layS s key (.string xs))) := r7
          have F7 : Hid (RefV w7 Rb Rb u7 (layS s key (.string xs))) := f7
          have S7 : Hid (Sep H v6 Rb u7) := se7.symm
          clear r7 f7 se7 c7 R6 F6 S6 B6 cz0 cz1 cz2 Y6
          rw [HP.out]
          go_wp2_with fail
          go_meet
          exact ⟨_, _, _, R7.out, F7.out, S7.out, ST6.out, B7.out⟩
        by_cases k1 : kd = 1
        · subst k1
          go_wp2_with fail
          refine (get_anyS W1 H H v s RW.out key).mono ?_; rintro e w6 ⟨rfl, b6⟩
          have R6 : Hid (RngV 77 w6 H H v s) := RW.out.below b6
          have F6 : Hid (RefV w6 Rb Rb u s) := FW.out.below b6
          have Y6 : Hid (Blk w6 nb [.int .i64 1, .int .i64 key, .string xs]) := YB.out.low b6 hnl
          have B6 : Hid (Below H w1 w6) := BW.out.trans (b6.mono hHW)
          clear b6 RW FW YB BW cz0 cz1 cz2
          have cz1 := Y6.out.cell 1 _ rfl
          obtain ⟨gb, hgb⟩ := strT_get ST.out key
          have HG : Hid (getX s.L key (.string ⟨#[]⟩) = .string gb) := hgb
          rw [hgb]
          obtain ⟨ib, hib⟩ : ∃ ib, isAt s.L key = ib := ⟨_, rfl⟩
          have HI : Hid (isAt s.L key = ib) := hib
          rw [hib]
          clear hgb hib
          go_wp2_with fail
          refine (ref_get w6 Rb Rb u s F6.out key).mono ?_; rintro e w7 ⟨rfl, rfl⟩
          rw [HG.out, HI.out]
          go_wp2_with fail
          go_meet
          exact ⟨_, _, _, R6.out, F6.out, SE.out, ST.out, B6.out⟩
        by_cases k2 : kd = 2
        · subst k2
          have R2 : Hid (RngV 77 W1.drew H H v s) := RW.out.drew
          have F2 : Hid (RefV W1.drew Rb Rb u s) := FW.out.drew
          have Y2 : Hid (Blk W1.drew nb [.int .i64 2, .int .i64 key, .string xs]) := YB.out.drew
          have B2 : Hid (Below H w1 W1.drew) := BW.out.drew
          have hnl2 : nb < W1.drew.heap.size := hnl
          have hHW2 : H ≤ W1.drew.heap.size := hHW
          go_wp2_with fail
          go_region_held3 (fun w' => w'.cell? ⟨nb, 1, none⟩ = some (.int .i64 key)) (first | with_reducible exact cz1 | with_reducible exact z4 | with_reducible exact z5 | go_keep)
            (first | (go_at_call 16; (with_reducible refine (until_anyS _ H H v s R2.out key).mono ?_); rintro e w4 ⟨rfl, b4⟩; have R4 : Hid (RngV 77 w4 H H v s) := R2.out.below b4; have F4 : Hid (RefV w4 Rb Rb u s) := F2.out.below b4; have Y4 : Hid (Blk w4 nb [.int .i64 2, .int .i64 key, .string xs]) := Y2.out.low b4 hnl2; have B4 : Hid (Below H w1 w4) := B2.out.trans (b4.mono hHW2); have z4 := Y4.out.cell 1 _ rfl) | (go_at_call 17; (with_reducible refine (ref_until _ Rb Rb u s F4.out key).mono ?_); rintro e w5 ⟨rfl, h5⟩; subst h5; have z5 := Y4.out.cell 1 _ rfl))
          go_wp2_with fail
          go_meet
          exact ⟨_, _, _, R4.out, F4.out, SE.out, ST.out, B4.out⟩
        have j0 : (kd == 0) = false := by simpa using k0
        have j1 : (kd == 1) = false := by simpa using k1
        have j2 : (kd == 2) = false := by simpa using k2
        go_wp2_with fail
        go_meet
        exact ⟨_, _, _, RW.out, FW.out, SE.out, ST.out, BW.out⟩
      case rest =>
        obtain ⟨v', u', s', r7, f7, se7, st7, b7⟩ := hcut
        have R7 : Hid (RngV 77 wc H H v' s') := r7
        have F7 : Hid (RefV wc Rb Rb u' s') := f7
        have S7 : Hid (Sep H v' Rb u') := se7
        have T7 : Hid (StrT s'.L) := st7
        have B7 : Hid (Below H w1 wc) := b7
        clear r7 f7 se7 st7 b7 RW FW SE ST YB BW NV cz0 cz1 cz2 hnH hnl hHW hx
        obtain ⟨N, hN⟩ : ∃ N, s'.L.length = N := ⟨_, rfl⟩
        have HN : Hid (s'.L.length = N) := hN
        have hN64 : N ≤ 64 := by have := R7.out.ok.len; have := R7.out.ok.most; omega
        have HLEN : Hid (∀ w', RngV 77 w' H H v' s' → Calls Try.prog 19 #[.pointer (some ⟨H, 0, none⟩)] w' fun e w'' => e = .returned (.int .i64 (N : Nat)) ∧ w'' = w') := fun w' h => by have := len_anyS w' H H v' s' h; rw [hN] at this; exact this
        obtain ⟨aoR, capR, hu', hcR, hmR, _, _, _⟩ := F7.out.row
        rw [hN] at hu' hcR
        subst hu'
        have HCd : Hid (∀ w', RefV w' Rb Rb (.slice aoR N capR) s' → ∀ q, q < N → ∃ b o xb, aoR = some ⟨b, o, none⟩ ∧ thing s'.L q = .string xb ∧ w'.cell? ⟨b, o + q * 2, none⟩ = some (.int .i64 (keyAt s'.L q)) ∧ w'.cell? ⟨b, o + q * 2 + 1, none⟩ = some (.string xb)) := fun w' hf q hq => by
          have hL : s'.L ≠ [] := by intro e; rw [e] at hN; simp at hN; omega
          obtain ⟨b2, o2, cap2, e, _, _, _, hc⟩ := hf.row.some_ hL
          injection e with e _ _
          obtain ⟨p, hp, _, ept⟩ := keyAt_mem (L := s'.L) (i := q) (by omega)
          obtain ⟨xb, hxb⟩ := T7.out p hp
          obtain ⟨c1, c2⟩ := hc q (by omega)
          have et : thing s'.L q = .string xb := by rw [← ept, hxb]
          exact ⟨b2, o2, xb, e, et, c1, by rw [c2, et]⟩
        clear hN
        go_wp2_with fail
        refine (floor_anyS wc H H v' s' R7.out).mono ?_; rintro e w10 ⟨rfl, qd, rfl⟩
        have R8 : Hid (RngV 77 (wc.drewN qd) H H v' s') := R7.out.drewN qd
        have F8 : Hid (RefV (wc.drewN qd) Rb Rb (.slice aoR N capR) s') := F7.out.drewN qd
        have B8 : Hid (Below H w1 (wc.drewN qd)) := below_drewN B7.out qd
        clear R7 F7 B7
        generalize wc.drewN qd = w11 at R8 F8 B8 ⊢
        have z0 := F8.out.blk.cell 0 _ rfl
        have z2 := F8.out.blk.cell 2 _ rfl
        have z3 := F8.out.blk.cell 3 _ rfl
        obtain ⟨F, hF⟩ : ∃ F, s'.F = F := ⟨_, rfl⟩
        obtain ⟨G, hG⟩ : ∃ G, s'.G = G := ⟨_, rfl⟩
        rw [hF] at z2
        rw [hG] at z3
        rw [hF, hG]
        clear hF hG
        go_wp2_with fail
        go_quiet (first | (go_at_call 19; exact Calls.quiet_of_same (HLEN.out _ (R8.out.drewN _))))
        have R9 : Hid (RngV 77 (w11.drewN nq) H H v' s') := R8.out.drewN nq
        have F9 : Hid (RefV (w11.drewN nq) Rb Rb (.slice aoR N capR) s') := F8.out.drewN nq
        have B9 : Hid (Below H w1 (w11.drewN nq)) := below_drewN B8.out nq
        clear R8 F8 B8 z0 z2 z3
        generalize w11.drewN nq = w12 at R9 F9 B9 ⊢
        have z0 := F9.out.blk.cell 0 _ rfl
        go_wp2_with fail
        go_loopg [173] N (fun g i wr => ∃ (q : Nat), q + g = N ∧ i = .int .i64 q ∧ RngV 77 wr H H v' s' ∧ RefV wr Rb Rb (.slice aoR N capR) s' ∧ Below H w1 wr)
        case atStart => exact ⟨0, by omega, rfl, R9.out, F9.out, B9.out⟩
        case round =>
          clear R9 F9 B9 z0
          obtain ⟨q, hq, rfl, hr, hf, hbl⟩ := hrel
          have RR : Hid (RngV 77 wr H H v' s') := hr
          have FF : Hid (RefV wr Rb Rb (.slice aoR N capR) s') := hf
          have BB : Hid (Below H w1 wr) := hbl
          have hzw : H < wr.heap.size := hr.blk.lt
          clear hr hf hbl
          by_cases hqN : q < N
          · obtain ⟨b2, o2, xb, rfl, et, d0, d1'⟩ := HCd.out wr FF.out q hqN
            have ET : Hid (thing s'.L q = .string xb) := et
            obtain ⟨y, hy⟩ : ∃ y, keyAt s'.L q = y := ⟨_, rfl⟩
            have HY : Hid (keyAt s'.L q = y) := hy
            rw [hy] at d0
            obtain ⟨nb2, hnb⟩ : ∃ x, wr.heap.size = x := ⟨_, rfl⟩
            obtain ⟨W, hW⟩ : ∃ W, wr.alloc (.cells #[.int .i64 y, .string xb] 46) = W := ⟨_, rfl⟩
            obtain ⟨y1, y2, y3, _⟩ := boxA hW
            have RW : Hid (RngV 77 W H H v' s') := RR.out.below y2
            have FW : Hid (RefV W Rb Rb (.slice (some ⟨b2, o2, none⟩) N capR) s') := FF.out.below y2
            have BW : Hid (Below H w1 W) := BB.out.trans (y2.mono (by omega))
            rw [hnb] at y1
            have YB : Hid (Blk W nb2 [.int .i64 y, .string xb]) := y1
            clear y1 y2 y3 RR FF BB et hy
            go_wp2_with fail
            refine (at_inS W H H v' s' RW.out q (by rw [HN.out]; exact hqN)).mono ?_; rintro e w13 ⟨rfl, qe, rfl⟩
            rw [HY.out, ET.out]
            have R10 : Hid (RngV 77 (W.drewN qe) H H v' s') := RW.out.drewN qe
            have F10 : Hid (RefV (W.drewN qe) Rb Rb (.slice (some ⟨b2, o2, none⟩) N capR) s') := FW.out.drewN qe
            have B10 : Hid (Below H w1 (W.drewN qe)) := below_drewN BW.out qe
            have Y10 : Hid (Blk (W.drewN qe) nb2 [.int .i64 y, .string xb]) := YB.out.low (below_drewN (Below.refl _ W) qe) YB.out.lt
            clear RW FW BW YB hW hnb d0 d1' HY ET
            generalize W.drewN qe = w14 at R10 F10 B10 Y10 ⊢
            have z0 := Y10.out.cell 0 _ rfl
            have z1 := Y10.out.cell 1 _ rfl
            go_wp2_with fail
            go_roundg (gk - 1)
            case measure => omega
            case rel => exact ⟨q + 1, by omega, by go_num, R10.out, F10.out, B10.out⟩
          · obtain rfl : q = N := by omega
            go_wp2_with fail
            go_roundg (m - (k + 1))
            case measure => omega
            case rel => exact ⟨k + 1, _, _, _, by omega, by go_num, RR.out, FF.out, S7.out, T7.out, BB.out⟩
    · obtain rfl : k = m := by omega
      go_wp2_with fail
      go_ret
      exact ⟨rfl, by rw [HH.out]; exact BB.out⟩

set_option maxRecDepth 100000 in
theorem lifted (os : Os) (started : os.Started) (H : Type) (enc : TypeId × Value → H) :
    ReturnsInHanded {} Try.checked os 3 .any (Rows.ringActsSpec.pre6 enc Try.prog Try.f3 Rows.ringActsRow.domain false) (Rows.ringActsSpec.post enc Try.prog Try.f3 false true false false) := by
  refine returnsInHanded_of_change (C := Try.checked) own started (by kernel_rfl) Try.func3
    (ChangeSpec.witness6 (enc := enc) (C := Try.checked) false ⟨#[], #[.int .i64 0, .slice none 0 0], []⟩ 8 (by kernel_rfl) (by kernel_rfl) (by kernel_rfl) (by kernel_rfl)) ?_
  intro W base args ds gs before hval0 hW hcnd _
  have hval : ∀ (j : Nat) t v, Try.f3.params[j]? = some t → args[j]? = some v → Value.okWide Try.prog W .any base t v := hval0
  have hW' := hW
  obtain ⟨p, q, hA0, hV, rfl, hfz, hnd⟩ := hW
  have hA : DataW.TrodAll enc Try.prog W 0 (fun _ => true) true Try.f3.params.toList args.toList ds p := hA0
  rw [Try.params3] at hA hval
  obtain ⟨v0, vs0, d0, ds0, p0, q0, hargs, rfl, rfl, h0, r0⟩ := trodAll_cons hA
  obtain ⟨v1, vs1, d1, ds1, p1, q1, rfl, rfl, rfl, h1, r1⟩ := trodAll_cons r0
  obtain ⟨rfl, rfl, rfl⟩ := trodAll_nil r1
  obtain rfl : args = #[v0, v1] := by cases args; simp_all
  obtain ⟨rfl, rfl⟩ := trodVars_none hV
  have hlt := hW'.lt
  have k0 := h0
  obtain ⟨a0, rfl, rfl, rfl, w0⟩ := open_int Try.underlying3 (hval 0 3 v0 rfl rfl) h0
  have k1 := h1
  obtain ⟨n1, A1, b1, e1⟩ := open_actsT (hval 1 22 v1 rfl rfl) h1
  clear hA0 hval0
  refine (walk W a0 w0 v1 n1 A1 b1 e1).mono fun e W' ⟨he, hg⟩ => ?_
  subst he
  exact ⟨_, rfl, post_of_below hW' (fun _ _ _ => (trodAll_cons_mk (shut_bool Try.underlying4 _) trodAll_mk0)) (trodAll_cons_mk (Below.trod laidOut (by kernel_rfl) (of_decide_eq_true (by kernel_rfl)) k0 hg (fun x hx => by first | exact absurd hx (by simp) | exact hlt x (by simp [hx]))) (trodAll_cons_mk (Below.trod laidOut (by kernel_rfl) (of_decide_eq_true (by kernel_rfl)) k1 hg (fun x hx => by first | exact absurd hx (by simp) | exact hlt x (by simp [hx]))) trodAll_mk0)) rfl hg⟩

theorem over : Rows.ringActsRow.holds Try.pinned (OpenSpec.ofChange Rows.ringActsSpec) :=
  OpenClaim.holds_of_wide 3 Try.f3 rfl rfl rfl rfl rfl rfl rfl ⟨rfl, rfl, rfl, rfl, rfl⟩ rfl rfl rfl rfl rfl (by kernel_rfl) Try.func3 (by kernel_rfl)
    (of_decide_eq_true (by kernel_rfl)) (by unfold Func.isWrapper; first | (rw [if_pos (by decide +kernel)]; kernel_rfl) | (rw [if_neg (by decide +kernel)]; exact ⟨rfl, rfl⟩))
    (fun os started H enc _ => lifted os started H enc)
end RingActsL

theorem ringActs_proved : Rows.RingActsSaid := RingActsL.over
#print axioms ringActs_proved
end Go.Proofs.Ytfpngbeomgfmfaa
