/-
  Proved: whatever is laid, the numbers are in order, and are greater than each one that has gone; what is at one is what was laid there first; with one that is refused nothing is others (the law RingGreatest answers true at every input).
  Conditions: none.
-/
import Derived.Test.YtfpngbeomgfmfaaRows
import Derived.Test.YtfpngbeomgfmfaaFr11
import Derived.Test.YtfpngbeomgfmfaaRg11
namespace Go.Proofs.Ytfpngbeomgfmfaa
open Go.ChangeShapes Go.WideShapes Go.ChangeAt Go.RowKit
set_option linter.unusedVariables false

namespace RingGreatestL
theorem own : ownKnob Try.prog.godebug = none := by kernel_rfl

set_option maxRecDepth 20000 in
set_option maxHeartbeats 8000000 in
theorem walk (w : World) (n : Int) (hn : (Lit.int .i64 n).wf = true) (va : Value) (m : Nat) (A : Nat → Int × Int × ByteArray) (hA : ∀ i, i < m → (-9223372036854775808 ≤ (A i).2.1 ∧ (A i).2.1 ≤ 9223372036854775807)) (hl : RdT w va m A) :
    Calls Try.prog 5 #[.int .i64 n, va] w fun e w' => e = .returned (.bool true) ∧ Below w.heap.size w w' := by
  obtain ⟨ao, cap, rfl, h1, h2, h3⟩ := hl
  have P3 : Hid _ := h3
  have HA : Hid (∀ i, i < m → (-9223372036854775808 ≤ (A i).2.1 ∧ (A i).2.1 ≤ 9223372036854775807)) := hA
  clear hn hA h3
  have hmm := @run_makeMap Try.prog
  obtain ⟨H, hH⟩ : ∃ H, w.heap.size = H := ⟨_, rfl⟩
  have HH : Hid (w.heap.size = H) := hH
  obtain ⟨hmo1, hmo2⟩ := most_bd n
  obtain ⟨M, hMe⟩ : ∃ M, mostN n = M := ⟨_, rfl⟩
  have HMO : Hid (∀ w', Calls Try.prog 10 #[.int .i64 n] w' fun e w'' => e = .returned (.int .i64 (M : Nat)) ∧ w'' = w') := fun w' => by have := most_any w' n; rw [hMe] at this; exact this
  rw [hMe] at hmo1 hmo2
  clear hMe
  go_enter Try.func5, Try.ntmps5
  go_wp2_with fail
  refine (HMO.out _).mono ?_; rintro e w1 ⟨rfl, rfl⟩
  go_wp2_with fail
  refine (new_anyI _ _ hmo1 hmo2).mono ?_; rintro e w2 ⟨rfl, r2, b2, z2⟩
  rw [hH] at r2 b2
  rw [hH]
  have R2 : Hid (RngV 86 w2 H H (.slice none 0 0) (emptyR M)) := r2
  have B2 : Hid (Below H w1 w2) := b2
  have hz2 : H + 1 ≤ w2.heap.size := by omega
  clear r2 b2 z2 hH
  go_wp2_with fail
  refine (rg_alive _).mono ?_; rintro e w3 ⟨rfl, b3⟩
  have R3 : Hid (RngV 86 w3 H H (.slice none 0 0) (emptyR M)) := R2.out.below b3
  have B3 : Hid (Below H w1 w3) := B2.out.trans (b3.mono (by omega))
  have hz3 : H + 1 ≤ w3.heap.size := Nat.le_trans hz2 b3.size
  clear R2 B2 hz2 b3
  by_cases hbig : 200 < m
  · have d1 : decide ((200 : Int) < (m : Int)) = true := by simp; omega
    go_wp2_with fail
    refine (rg_alive _).mono ?_; rintro e w4 ⟨rfl, b4⟩
    have B4 : Hid (Below H w1 w4) := B3.out.trans (b4.mono (by omega))
    clear b4
    go_wp2_with fail
    go_ret
    exact ⟨rfl, by rw [HH.out]; exact B4.out⟩
  have d1 : decide ((200 : Int) < (m : Int)) = false := by simp; omega
  go_upto_region 5 with fail
  have r4 := R3.out.below ((Below.refl w3.heap.size w3).alloc (Nat.le_refl _) (.map #[] 0))
  have b4 := B3.out.trans ((Below.refl H w3).alloc (by omega) (.map #[] 0))
  have m4 := MapP.made w3
  obtain ⟨Mb, hMb⟩ : ∃ Mb, w3.heap.size = Mb := ⟨_, rfl⟩
  rw [hMb] at m4 ⊢
  have hMH : H < Mb := by omega
  obtain ⟨W4, hW4⟩ : ∃ W4, w3.alloc (.map #[] 0) = W4 := ⟨_, rfl⟩
  rw [hW4] at r4 b4 m4 ⊢
  have R4 : Hid (RngV 86 W4 H H (.slice none 0 0) (emptyR M)) := r4
  have B4 : Hid (Below H w1 W4) := b4
  have M4 : Hid (MapP W4 Mb []) := m4
  clear r4 b4 m4 hW4 R3 B3 hz3 hMb hmm
  go_wp2_with fail
  go_loopg [48] m (fun g i wr => ∃ (k : Nat) (v : Value) (s : Rs), k + g = m ∧ i = .int .i64 k ∧ RngV 86 wr H H v s ∧ MapP wr Mb s.L ∧ some Mb ≠ v.ownBlock ∧ IntT s.L ∧ s.M = M ∧ Below H w1 wr)
  case atStart => exact ⟨0, _, _, by omega, rfl, R4.out, M4.out, by simp [Value.ownBlock], fun p hp => (by cases hp), rfl, B4.out⟩
  case round =>
    clear R4 M4 B4
    obtain ⟨k, v, s, hk, rfl, hr, hmp, hne, hit, hsm, hbl⟩ := hrel
    have RR : Hid (RngV 86 wr H H v s) := hr
    have MM : Hid (MapP wr Mb s.L) := hmp
    have NE : Hid (some Mb ≠ v.ownBlock) := hne
    have IT : Hid (IntT s.L) := hit
    have SM : Hid (s.M = M) := hsm
    have BB : Hid (Below H w1 wr) := hbl
    have hzr : Mb < wr.heap.size := hmp.lt
    clear hr hmp hne hit hsm hbl
    by_cases hlt : k < m
    · obtain ⟨b, o, rfl, hat⟩ := P3.out.resolve_left (by omega)
      obtain ⟨c0, c1, c2⟩ := hat k hlt
      have hx := HA.out k hlt
      obtain ⟨⟨kd, key, xs⟩, hq⟩ : ∃ q, A k = q := ⟨_, rfl⟩
      rw [hq] at c0 c1 c2 hx
      simp only at c0 c1 c2 hx
      have hb0 : b < H := by have := World.block_lt_of_cell? w1 _ c0; have := HH.out; simp only at *; omega
      have e0 := (BB.out.cell (p := ⟨b, o + k * 3, none⟩) hb0).trans c0
      have e1 := (BB.out.cell (p := ⟨b, o + k * 3 + 1, none⟩) hb0).trans c1
      have e2 := (BB.out.cell (p := ⟨b, o + k * 3 + 2, none⟩) hb0).trans c2
      clear c0 c1 c2 hat hq
      obtain ⟨nb, hnb⟩ : ∃ x, wr.heap.size = x := ⟨_, rfl⟩
      obtain ⟨W1, hW1⟩ : ∃ W1, wr.alloc (.cells #[.int .i64 kd, .int .i64 key, .string xs] 34) = W1 := ⟨_, rfl⟩
      obtain ⟨y1, y2, y3, _⟩ := boxA hW1
      have RW : Hid (RngV 86 W1 H H v s) := RR.out.below y2
      have MW : Hid (MapP W1 Mb s.L) := MM.out.below y2
      have BW : Hid (Below H w1 W1) := BB.out.trans (y2.mono (by omega))
      have hnv : some nb ≠ v.ownBlock := fun e => by have := (RR.out.own.lt nb e.symm).2; omega
      have NV : Hid (some nb ≠ v.ownBlock) := hnv
      rw [hnb] at y1
      have YB : Hid (Blk W1 nb [.int .i64 kd, .int .i64 key, .string xs]) := y1
      have cz := y1.cell 1 _ rfl
      have hnH : nb ≠ H := by omega
      have hnM : nb ≠ Mb := by omega
      have hnl := y1.lt
      clear y1 y2 y3 RR MM BB hnv
      obtain ⟨N, hN⟩ : ∃ N, s.L.length = N := ⟨_, rfl⟩
      have HN : Hid (s.L.length = N) := hN
      have hN64 : N ≤ 64 := by have := RW.out.ok.len; have := RW.out.ok.most; omega
      clear hN
      go_wp2_with fail
      refine (len_anyI W1 H H v s RW.out).mono ?_; rintro e w5 ⟨rfl, rfl⟩
      rw [HN.out]
      clear hW1 hnb
      go_wp2_with fail
      refine (lay_anyI w5 H H v s RW.out key hx _).mono ?_; rintro e w6 ⟨rfl, v6, r6, c6⟩
      obtain ⟨m6, n6⟩ := MW.out.chg c6 (by omega) NE.out
      obtain ⟨yb6, nv6⟩ := YB.out.chg c6 hnH NV.out
      have R6 : Hid (RngV 86 w6 H H v6 (layS s key (.int .i64 (k : Int)))) := r6
      have M6 : Hid (MapP w6 Mb s.L) := m6
      have N6 : Hid (some Mb ≠ v6.ownBlock) := n6
      have Y6 : Hid (Blk w6 nb [.int .i64 kd, .int .i64 key, .string xs]) := yb6
      have B6 : Hid (Below H w1 w6) := BW.out.trans c6.below
      have OK : Hid (s.ok) := RW.out.ok
      clear r6 m6 n6 yb6 nv6 c6 RW MW NE YB BW NV cz hnl
      have cz := Y6.out.cell 1 _ rfl
      have hnl := Y6.out.lt
      have S6M : Hid ((layS s key (.int .i64 (k : Int))).M = M) := by show (layS s key (.int .i64 (k : Int))).M = M; rw [layS_M]; exact SM.out
      have IT6 : Hid (IntT (layS s key (.int .i64 (k : Int))).L) := intT_lay IT.out key k
      obtain ⟨⟨p1, p2, p3⟩, hp⟩ : ∃ p, layA s key = p := ⟨_, rfl⟩
      have HP : Hid (layA s key = (p1, p2, p3)) := hp
      rw [hp]
      clear hp
      go_upto_if 65 with fail
      go_cut [] (fun wx => RngV 86 wx H H v6 (layS s key (.int .i64 (k : Int))) ∧ MapP wx Mb (layS s key (.int .i64 (k : Int))).L ∧ Below H w1 wx)
      case first =>
        have hH6 : H ≤ w6.heap.size := by have := B6.out.size; have := HH.out; omega
        by_cases hat : isAt s.L key = true
        · have E := lay_dup (x := .int .i64 (k : Int)) hat
          have ep := HP.out.symm.trans E.1
          simp only [Prod.mk.injEq] at ep
          obtain ⟨rfl, rfl, rfl⟩ := ep
          have HL : Hid ((layS s key (.int .i64 (k : Int))).L.length = N) := by show (layS s key (.int .i64 (k : Int))).L.length = N; rw [E.2]; exact HN.out
          have M7 : Hid (MapP w6 Mb (layS s key (.int .i64 (k : Int))).L) := by show MapP w6 Mb (layS s key (.int .i64 (k : Int))).L; rw [E.2]; exact M6.out
          clear E HP
          go_wp2_with fail
          refine (has_any w6 Mb s.L M6.out OK.out.rise key hx).mono ?_; rintro e w7 ⟨rfl, rfl⟩
          rw [hat]
          clear hat
          go_wp2_with fail
          refine (len_anyI w7 H H v6 _ R6.out).mono ?_; rintro e w8 ⟨rfl, rfl⟩
          rw [HL.out]
          go_wp2_with fail
          go_meet
          exact ⟨R6.out, M7.out, B6.out⟩
        have hat' : isAt s.L key = false := by simpa using hat
        by_cases hst : untl s.L key = 0 ∧ s.L.length = s.M
        · have E := lay_stale (x := .int .i64 (k : Int)) hat' hst
          have ep := HP.out.symm.trans E.1
          simp only [Prod.mk.injEq] at ep
          obtain ⟨rfl, rfl, rfl⟩ := ep
          have HL : Hid ((layS s key (.int .i64 (k : Int))).L.length = N) := by show (layS s key (.int .i64 (k : Int))).L.length = N; rw [E.2]; exact HN.out
          have M7 : Hid (MapP w6 Mb (layS s key (.int .i64 (k : Int))).L) := by show MapP w6 Mb (layS s key (.int .i64 (k : Int))).L; rw [E.2]; exact M6.out
          clear E HP hst hat
          go_wp2_with fail
          refine (has_any w6 Mb s.L M6.out OK.out.rise key hx).mono ?_; rintro e w7 ⟨rfl, rfl⟩
          rw [hat']
          clear hat'
          go_wp2_with fail
          refine (len_anyI w7 H H v6 _ R6.out).mono ?_; rintro e w8 ⟨rfl, rfl⟩
          rw [HL.out]
          go_wp2_with fail
          go_meet
          exact ⟨R6.out, M7.out, B6.out⟩
        have hn : Hid (∀ p ∈ s.L, p.1 ≠ key) := fun p hp e => hat ((isAt_iff OK.out.rise key).2 ⟨p, hp, e⟩)
        have hL1000 : s.L.length ≤ 1000 := by have := HN.out; omega
        by_cases hfi : s.L.length < s.M
        · have E := lay_fit (x := .int .i64 (k : Int)) hat' hfi
          have ep := HP.out.symm.trans E.1
          simp only [Prod.mk.injEq] at ep
          obtain ⟨rfl, rfl, rfl⟩ := ep
          have HE : Hid ((layS s key (.int .i64 (k : Int))).L = laid s.L key (.int .i64 (k : Int))) := by show (layS s key (.int .i64 (k : Int))).L = _; rw [E.2]
          clear E HP hst hat hat' hfi
          go_wp2_with (refine storeP_wp rfl _ _ _ rfl Mb s.L rfl (by exact M6.out) hL1000 key hx hn.out (.int .i64 (k : Int)) rfl rfl ?_; intro w7 m7 g7)
          have R7 : Hid (RngV 86 w7 H H v6 (layS s key (.int .i64 (k : Int)))) := R6.out.map g7 (by omega) N6.out
          have M7 : Hid (MapP w7 Mb (layS s key (.int .i64 (k : Int))).L) := by show MapP w7 Mb _; rw [HE.out]; exact m7
          have B7 : Hid (Below H w1 w7) := B6.out.trans ((Below.refl H w6).grown g7 hH6 (fun q hq => by injection hq with hq; omega))
          clear m7 g7
          go_wp2_with fail
          go_meet
          exact ⟨R7.out, M7.out, B7.out⟩
        · have E := lay_full (x := .int .i64 (k : Int)) hat' hst hfi
          have ep := HP.out.symm.trans E.1
          simp only [Prod.mk.injEq] at ep
          obtain ⟨hg, rfl, rfl⟩ := ep
          have HG : Hid (keyAt (laid s.L key (.int .i64 (k : Int))) 0 = p1) := hg.symm
          have HE : Hid ((layS s key (.int .i64 (k : Int))).L = (laid s.L key (.int .i64 (k : Int))).tail) := by show (layS s key (.int .i64 (k : Int))).L = _; rw [E.2]
          have hri := rise_laid OK.out.rise hat' (.int .i64 (k : Int))
          have HRI : Hid (Rise (laid s.L key (.int .i64 (k : Int)))) := hri
          have HNE : Hid (laid s.L key (.int .i64 (k : Int)) ≠ []) := fun e => by have := laid_len s.L key (.int .i64 (k : Int)); rw [e] at this; simp at this
          clear E HP hst hat hat' hfi hri hg
          go_wp2_with (first | (refine storeP_wp rfl _ _ _ rfl Mb s.L rfl (by exact M6.out) hL1000 key hx hn.out (.int .i64 (k : Int)) rfl rfl ?_; intro w7 m7 g7; have M7 : Hid (MapP w7 Mb (laid s.L key (.int .i64 (k : Int)))) := m7; have G7 : Hid (w6.grownBy w7 (some Mb)) := g7; clear m7 g7) | (at_delete; refine delP_wp rfl _ _ rfl Mb (laid s.L key (.int .i64 (k : Int))) rfl (by exact M7.out) HRI.out HNE.out p1 HG.out rfl ?_; intro w8 m8 g8))
          have R7 : Hid (RngV 86 w7 H H v6 (layS s key (.int .i64 (k : Int)))) := R6.out.map G7.out (by omega) N6.out
          have B7 : Hid (Below H w1 w7) := B6.out.trans ((Below.refl H w6).grown G7.out hH6 (fun q hq => by injection hq with hq; omega))
          have hH7 : H ≤ w7.heap.size := Nat.le_trans hH6 G7.out.size
          have R8 : Hid (RngV 86 w8 H H v6 (layS s key (.int .i64 (k : Int)))) := R7.out.map g8 (by omega) N6.out
          have M8 : Hid (MapP w8 Mb (layS s key (.int .i64 (k : Int))).L) := by show MapP w8 Mb _; rw [HE.out]; exact m8
          have B8 : Hid (Below H w1 w8) := B7.out.trans ((Below.refl H w7).grown g8 hH7 (fun q hq => by injection hq with hq; omega))
          clear m8 g8
          go_wp2_with fail
          go_meet
          exact ⟨R8.out, M8.out, B8.out⟩
      case rest =>
        obtain ⟨r7, m7, b7⟩ := hcut
        have R7 : Hid (RngV 86 wc H H v6 (layS s key (.int .i64 (k : Int)))) := r7
        have M7 : Hid (MapP wc Mb (layS s key (.int .i64 (k : Int))).L) := m7
        have B7 : Hid (Below H w1 wc) := b7
        clear r7 m7 b7 R6 M6 B6 HP OK IT SM Y6 cz hnl e0 e1 e2 HN hN64 hnH hnM
        obtain ⟨s', hs'⟩ : ∃ s', layS s key (.int .i64 (k : Int)) = s' := ⟨_, rfl⟩
        rw [hs'] at R7 M7 S6M IT6
        clear hs'
        obtain ⟨N, hN⟩ : ∃ N, s'.L.length = N := ⟨_, rfl⟩
        have HN : Hid (s'.L.length = N) := hN
        have hNM : N ≤ M := by have := R7.out.ok.len; have := S6M.out; omega
        clear hN
        have d5 : decide ((M : Int) < (N : Int)) = false := by simp; omega
        have d6 : decide (M < N) = false := by simp; omega
        go_wp2_with fail
        refine (len_anyI wc H H v6 s' R7.out).mono ?_; rintro e w7 ⟨rfl, rfl⟩
        rw [HN.out]
        go_wp2_with (at_len; refine lenP_wp rfl _ rfl Mb s'.L rfl (by exact M7.out) N HN.out ?_)
        refine (len_anyI w7 H H v6 s' R7.out).mono ?_; rintro e w8 ⟨rfl, rfl⟩
        rw [HN.out]
        go_wp2_with fail
        refine (HMO.out _).mono ?_; rintro e w9 ⟨rfl, rfl⟩
        go_wp2_with fail
        refine (floor_anyI w9 H H v6 s' R7.out).mono ?_; rintro e w10 ⟨rfl, qd, rfl⟩
        have R8 : Hid (RngV 86 (w9.drewN qd) H H v6 s') := R7.out.drewN qd
        have M8 : Hid (MapP (w9.drewN qd) Mb s'.L) := M7.out
        have B8 : Hid (Below H w1 (w9.drewN qd)) := below_drewN B7.out qd
        clear R7 M7 B7
        generalize w9.drewN qd = w11 at R8 M8 B8 ⊢
        obtain ⟨F, hF⟩ : ∃ F, s'.F = F := ⟨_, rfl⟩
        have HF : Hid (s'.F = F) := hF
        obtain ⟨G, hG⟩ : ∃ G, s'.G = G := ⟨_, rfl⟩
        have HG : Hid (s'.G = G) := hG
        rw [hF, hG]
        clear hF hG
        go_wp2_with fail
        refine (len_anyI w11 H H v6 s' R8.out).mono ?_; rintro e w12 ⟨rfl, rfl⟩
        rw [HN.out]
        have hN64 : N ≤ 64 := by omega
        go_wp2_with fail
        go_loopg [16, 109] N (fun g la i wr => ∃ (q : Nat) (y : Int), q + g = N ∧ i = .int .i64 q ∧ la = .int .i64 y ∧ (q = 0 → y = F) ∧ (0 < q → y = keyAt s'.L (q - 1)) ∧ RngV 86 wr H H v6 s' ∧ MapP wr Mb s'.L ∧ Below H w1 wr)
        case atStart => exact ⟨0, F, by omega, rfl, rfl, fun _ => rfl, fun h => (by omega), R8.out, M8.out, B8.out⟩
        case round =>
          clear R8 M8 B8
          obtain ⟨q, y, hq, rfl, rfl, hy0, hy1, hr, hmp, hbl⟩ := hrel
          have R9 : Hid (RngV 86 wr H H v6 s') := hr
          have M9 : Hid (MapP wr Mb s'.L) := hmp
          have B9 : Hid (Below H w1 wr) := hbl
          have Y0 : Hid (q = 0 → y = F) := hy0
          have Y1 : Hid (0 < q → y = keyAt s'.L (q - 1)) := hy1
          clear hr hmp hbl hy0 hy1
          by_cases hqN : q < N
          · have hqL : q < s'.L.length := by rw [HN.out]; exact hqN
            obtain ⟨p, hp, hpk, hpt⟩ := keyAt_mem hqL
            obtain ⟨t, ht⟩ := IT6.out p hp
            have hlast : ¬ (q = 0 ∧ G = false) → y < p.1 := fun h => by
              rcases Nat.eq_zero_or_pos q with h0 | h0
              · have hGt : s'.G = true := by
                  rw [HG.out]
                  cases hGG : G with
                  | true => rfl
                  | false => exact absurd ⟨h0, hGG⟩ h
                rw [Y0.out h0, ← HF.out]
                exact (R9.out.ok.gone hGt).2 p hp
              · rw [Y1.out h0, hpk]
                exact keyAt_lt R9.out.ok.rise (by omega) hqL
            have HLA : Hid (¬ (q = 0 ∧ G = false) → y < p.1) := hlast
            have HP1 : Hid (keyAt s'.L q = p.1) := hpk.symm
            have HP2 : Hid (thing s'.L q = .int .i64 t) := by show thing s'.L q = _; rw [← hpt, ht]
            have HPM : Hid (p ∈ s'.L) := hp
            have HPT : Hid (p.2 = .int .i64 t) := ht
            clear hp hpk hpt ht hlast
            go_wp2_with fail
            refine (at_inI wr H H v6 s' R9.out q hqL).mono ?_; rintro e w13 ⟨rfl, qe, rfl⟩
            have R10 : Hid (RngV 86 (wr.drewN qe) H H v6 s') := R9.out.drewN qe
            have M10 : Hid (MapP (wr.drewN qe) Mb s'.L) := M9.out
            have B10 : Hid (Below H w1 (wr.drewN qe)) := below_drewN B9.out qe
            clear R9 M9 B9
            generalize wr.drewN qe = w14 at R10 M10 B10 ⊢
            rw [HP1.out, HP2.out]
            have Z1 : Hid (p.1 = keyAt s'.L q) := HP1.out.symm
            have hlk : ∀ {ops rest o} {a : Act} {Q : Exit → Act → World → Prop} (hg : o.guard = none) (m x : Operand) (hop : o.op = Op.lookup 57 m x true) (hm : a.eval m = .map (some Mb)) (hx : a.eval x = .int .i64 p.1), wpList Try.prog ops Q rest (a.put o.dst (.tuple #[.int .i64 t, .bool true])) w14 → wpList Try.prog ops Q (o :: rest) a w14 := fun hg m x hop hm hx hK => lookP_in hg m x hop Mb s'.L hm M10.out p HPM.out hx (by rw [HPT.out]; exact hK)
            obtain ⟨pk, hpk⟩ : ∃ x, p.1 = x := ⟨_, rfl⟩
            rw [hpk] at HLA Z1
            rw [hpk] at hlk
            rw [hpk]
            have HL : Hid _ := @hlk
            clear hlk hpk HP1 HP2 HPM HPT
            by_cases hc : q = 0 ∧ G = false
            · obtain ⟨rfl, rfl⟩ := hc
              go_wp2_with (at_lookup; refine HL.out rfl _ _ rfl rfl rfl ?_)
              go_roundg (gk - 1)
              case measure => omega
              case rel => exact ⟨1, pk, by omega, by go_num, rfl, fun h => (by omega), fun _ => Z1.out, R10.out, M10.out, B10.out⟩
            · have hlt2 := HLA.out hc
              have d7 : decide (pk ≤ y) = false := by simp; omega
              by_cases hq0 : q = 0
              · have hGt : G = true := by
                  cases hGG : G with
                  | true => rfl
                  | false => exact absurd ⟨hq0, hGG⟩ hc
                subst hq0
                subst hGt
                go_wp2_with (at_lookup; refine HL.out rfl _ _ rfl rfl rfl ?_)
                go_roundg (gk - 1)
                case measure => omega
                case rel => exact ⟨1, pk, by omega, by go_num, rfl, fun h => (by omega), fun _ => Z1.out, R10.out, M10.out, B10.out⟩
              · have d8 : decide ((0 : Int) < (q : Int)) = true := by simp; omega
                have d9 : decide (0 < q) = true := by simp; omega
                have d10 : 0 < q := by omega
                go_wp2_with (at_lookup; refine HL.out rfl _ _ rfl rfl rfl ?_)
                go_roundg (gk - 1)
                case measure => omega
                case rel => exact ⟨q + 1, pk, by omega, by go_num, rfl, fun h => (by omega), fun _ => (by rw [Nat.add_sub_cancel]; exact Z1.out), R10.out, M10.out, B10.out⟩
          · obtain rfl : q = N := by omega
            go_wp2_with fail
            go_roundg (m - (k + 1))
            case measure => omega
            case rel => exact ⟨k + 1, _, _, by omega, by go_num, R9.out, M9.out, N6.out, IT6.out, S6M.out, B9.out⟩
    · obtain rfl : k = m := by omega
      go_wp2_with fail
      go_ret
      exact ⟨rfl, by rw [HH.out]; exact BB.out⟩

set_option maxRecDepth 100000 in
theorem lifted (os : Os) (started : os.Started) (H : Type) (enc : TypeId × Value → H) :
    ReturnsInHanded {} Try.checked os 5 .any (Rows.ringGreatestSpec.pre6 enc Try.prog Try.f5 Rows.ringGreatestRow.domain false) (Rows.ringGreatestSpec.post enc Try.prog Try.f5 false true false false) := by
  refine returnsInHanded_of_change (C := Try.checked) own started (by kernel_rfl) Try.func5
    (ChangeSpec.witness6 (enc := enc) (C := Try.checked) false ⟨#[], #[.int .i64 0, .slice none 0 0], []⟩ 8 (by kernel_rfl) (by kernel_rfl) (by kernel_rfl) (by kernel_rfl)) ?_
  intro W base args ds gs before hval0 hW hcnd _
  have hval : ∀ (j : Nat) t v, Try.f5.params[j]? = some t → args[j]? = some v → Value.okWide Try.prog W .any base t v := hval0
  have hW' := hW
  obtain ⟨p, q, hA0, hV, rfl, hfz, hnd⟩ := hW
  have hA : DataW.TrodAll enc Try.prog W 0 (fun _ => true) true Try.f5.params.toList args.toList ds p := hA0
  rw [Try.params5] at hA hval
  obtain ⟨v0, vs0, d0, ds0, p0, q0, hargs, rfl, rfl, h0, r0⟩ := trodAll_cons hA
  obtain ⟨v1, vs1, d1, ds1, p1, q1, rfl, rfl, rfl, h1, r1⟩ := trodAll_cons r0
  obtain ⟨rfl, rfl, rfl⟩ := trodAll_nil r1
  obtain rfl : args = #[v0, v1] := by cases args; simp_all
  obtain ⟨rfl, rfl⟩ := trodVars_none hV
  have hlt := hW'.lt
  have k0 := h0
  obtain ⟨a0, rfl, rfl, rfl, w0⟩ := open_int Try.underlying3 (hval 0 3 v0 rfl rfl) h0
  have k1 := h1
  obtain ⟨n1, A1, b1, e1⟩ := open_actsT (hval 1 22 v1 rfl rfl) h1
  clear hA0 hval0
  refine (walk W a0 w0 v1 n1 A1 b1 e1).mono fun e W' ⟨he, hg⟩ => ?_
  subst he
  exact ⟨_, rfl, post_of_below hW' (fun _ _ _ => (trodAll_cons_mk (shut_bool Try.underlying4 _) trodAll_mk0)) (trodAll_cons_mk (Below.trod laidOut (by kernel_rfl) (of_decide_eq_true (by kernel_rfl)) k0 hg (fun x hx => by first | exact absurd hx (by simp) | exact hlt x (by simp [hx]))) (trodAll_cons_mk (Below.trod laidOut (by kernel_rfl) (of_decide_eq_true (by kernel_rfl)) k1 hg (fun x hx => by first | exact absurd hx (by simp) | exact hlt x (by simp [hx]))) trodAll_mk0)) rfl hg⟩

theorem over : Rows.ringGreatestRow.holds Try.pinned (OpenSpec.ofChange Rows.ringGreatestSpec) :=
  OpenClaim.holds_of_wide 5 Try.f5 rfl rfl rfl rfl rfl rfl rfl ⟨rfl, rfl, rfl, rfl, rfl⟩ rfl rfl rfl rfl rfl (by kernel_rfl) Try.func5 (by kernel_rfl)
    (of_decide_eq_true (by kernel_rfl)) (by unfold Func.isWrapper; first | (rw [if_pos (by decide +kernel)]; kernel_rfl) | (rw [if_neg (by decide +kernel)]; exact ⟨rfl, rfl⟩))
    (fun os started H enc _ => lifted os started H enc)
end RingGreatestL

theorem ringGreatest_proved : Rows.RingGreatestSaid := RingGreatestL.over
#print axioms ringGreatest_proved
end Go.Proofs.Ytfpngbeomgfmfaa
