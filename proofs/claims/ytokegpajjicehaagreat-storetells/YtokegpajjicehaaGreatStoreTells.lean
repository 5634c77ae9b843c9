/-
  Proved: what is told of snapshots, by the last one or in full, one behind the other, is taken, and the last ones are kept as they were told (the law StoreTells answers true at every input).
  Conditions: none.
-/
import Derived.Test.YtokegpajjicehaaGreatRows
import Derived.Test.YtokegpajjicehaaGreatP39
namespace Go.Proofs.YtokegpajjicehaaGreat
open Go.ChangeShapes Go.WideShapes Go.ChangeAt Go.RowKit
set_option linter.unusedVariables false

namespace StoreTellsL
theorem own : ownKnob Tryz.prog.godebug = none := by kernel_rfl

set_option maxRecDepth 20000 in
set_option maxHeartbeats 16000000 in
theorem walk (w : World) (n : Int) (hn : (Lit.int .i64 n).wf = true) (va : Value) (m : Nat) (Z : Sns) (hz : ∀ i, i < m → S64 (Z.T i) ∧ S64 (Z.M i) ∧ ∀ k, k < Z.N i → (Z.A i k).ok) (hl : RdSn w va m Z) (vf : Value) (nf : Nat) (F : Nat → Bool) (hf : RdBo w vf nf F) :
    Calls Tryz.prog 6 #[.int .i64 n, va, vf] w fun e w' => e = .returned (.bool true) ∧ Below w.heap.size w w' := by
  obtain ⟨ao, cap, rfl, h1, h2, h3⟩ := hl
  obtain ⟨fo, fcap, rfl, f1, f2, f3⟩ := hf
  have P3 : Hid _ := h3
  have Q3 : Hid _ := f3
  have HZ : Hid (∀ i, i < m → S64 (Z.T i) ∧ S64 (Z.M i) ∧ ∀ k, k < Z.N i → (Z.A i k).ok) := hz
  clear hn hz h3 f3
  obtain ⟨H, hH⟩ : ∃ H, w.heap.size = H := ⟨_, rfl⟩
  have HH : Hid (w.heap.size = H) := hH
  obtain ⟨hmo1, hmo2⟩ := most_bd n
  obtain ⟨M, hMe⟩ : ∃ M, mostN n = M := ⟨_, rfl⟩
  have HMO : Hid (∀ w', Calls Tryz.prog 20 #[.int .i64 n] w' fun e w'' => e = .returned (.int .i64 (M : Nat)) ∧ w'' = w') := fun w' => by have := most_any w' n; rw [hMe] at this; exact this
  rw [hMe] at hmo1 hmo2
  clear hMe
  go_enter Tryz.func6, Tryz.ntmps6
  go_wp2_with fail
  refine (HMO.out _).mono ?_; rintro e w1 ⟨rfl, rfl⟩
  go_wp2_with fail
  refine (st_new _ M hmo1 hmo2).mono ?_; rintro e w2 ⟨rfl, s2, b2⟩
  rw [hH] at s2 b2
  rw [hH]
  obtain ⟨S, hS⟩ : ∃ S, H + 1 = S := ⟨_, rfl⟩
  rw [hS] at s2 ⊢
  have V2 : Hid (StoV w2 H S H (.slice none 0 0) (emptyR M) (emptyS M)) := s2
  have B2 : Hid (Below H w1 w2) := b2
  have hz2 : H ≤ w2.heap.size := by have := b2.size; omega
  clear s2 b2 hH
  go_wp2_with fail
  refine (st_alive _).mono ?_; rintro e w3 ⟨rfl, b3⟩
  have V3 : Hid (StoV w3 H S H (.slice none 0 0) (emptyR M) (emptyS M)) := V2.out.below b3
  have B3 : Hid (Below H w1 w3) := B2.out.trans (b3.mono hz2)
  have hz3 : H ≤ w3.heap.size := Nat.le_trans hz2 b3.size
  clear V2 B2 hz2 b3
  by_cases hbig : 40 < m
  · have d1 : decide ((40 : Int) < (m : Int)) = true := by simp; omega
    go_wp2_with fail
    refine (st_alive _).mono ?_; rintro e w5 ⟨rfl, b5⟩
    have B5 : Hid (Below H w1 w5) := B3.out.trans (b5.mono hz3)
    clear b5
    go_wp2_with fail
    go_ret
    exact ⟨rfl, by rw [HH.out]; exact B5.out⟩
  have d1 : decide ((40 : Int) < (m : Int)) = false := by simp; omega
  go_wp2_with fail
  go_loopg [9, 47] m (fun g a i wr => ∃ (k : Nat) (v : Value) (rs : Rs) (s : Sto) (J : List Nat) (va : Value), k + g = m ∧ i = .int .i64 k ∧ va = a ∧ StoV wr H S H v rs s ∧ s.M = M ∧ Few s.L ∧ OwnS wr H va (J.map (triZ Z)) ∧ Offs S H va ∧ Tel M (J.map (snZ Z)) s.L ∧ (∀ i ∈ J, i < m) ∧ s.N.getD 0 0 = J.length ∧ J.length ≤ k ∧ Below H w1 wr)
  case atStart => exact ⟨0, _, _, _, [], _, by omega, rfl, rfl, V3.out, rfl, (fun y hy => by cases hy), OwnS.nil _ _, ⟨by simp [Value.ownBlock], by simp [Value.ownBlock]⟩, Tel.nil _, (fun i hi => by cases hi), rfl, by simp, B3.out⟩
  case round =>
    clear V3 B3 hz3
    obtain ⟨k, v, rs, s, J, va, hk, rfl, rfl, hsv, hsm, hfew, how, hof, htl, hjm, hcn, hJk, hbl⟩ := hrel
    have V4 : Hid (StoV wr H S H v rs s) := hsv
    have SM : Hid (s.M = M) := hsm
    have FW : Hid (Few s.L) := hfew
    have O4 : Hid (OwnS wr H va (J.map (triZ Z))) := how
    have OF : Hid (Offs S H va) := hof
    have TL : Hid (Tel M (J.map (snZ Z)) s.L) := htl
    have JM : Hid (∀ i ∈ J, i < m) := hjm
    have CN : Hid (s.N.getD 0 0 = J.length) := hcn
    have B4 : Hid (Below H w1 wr) := hbl
    have hz4 : H ≤ wr.heap.size := by have := hbl.size; have := HH.out; omega
    clear hsv hsm hfew how hof htl hjm hcn hbl
    by_cases hlt : k < m
    · obtain ⟨b, o, rfl, hat⟩ := P3.out.resolve_left (by omega)
      obtain ⟨c0, c1, c2, hre⟩ := hat k hlt
      have HAT : Hid (∀ i, i < m → w1.cell? ⟨b, o + i * 3, none⟩ = some (.int .i64 (Z.T i)) ∧ w1.cell? ⟨b, o + i * 3 + 1, none⟩ = some (.int .i64 (Z.M i)) ∧ w1.cell? ⟨b, o + i * 3 + 2, none⟩ = some (Z.U i) ∧ RdE w1 (Z.U i) (Z.N i) (Z.A i)) := hat
      obtain ⟨z1, z2, z3⟩ := HZ.out k hlt
      have hb0 : b < H := by have := World.block_lt_of_cell? w1 _ c0; have := HH.out; simp only at *; omega
      have HTR : Hid (triZ Z k = (Z.T k, Z.M k, Z.U k)) := rfl
      have HSN : Hid (snZ Z k = ⟨Z.T k, Z.M k, preE (Z.A k) (Z.N k)⟩) := rfl
      obtain ⟨xt, hxt⟩ : ∃ y, Z.T k = y := ⟨_, rfl⟩
      obtain ⟨xm, hxm⟩ : ∃ y, Z.M k = y := ⟨_, rfl⟩
      obtain ⟨xu, hxu⟩ : ∃ y, Z.U k = y := ⟨_, rfl⟩
      obtain ⟨xn, hxn⟩ : ∃ y, Z.N k = y := ⟨_, rfl⟩
      obtain ⟨xA, hxA⟩ : ∃ y, Z.A k = y := ⟨_, rfl⟩
      rw [hxt] at c0 z1 HTR HSN
      rw [hxm] at c1 z2 HTR HSN
      rw [hxu] at c2 hre HTR
      rw [hxn] at hre z3 HSN
      rw [hxA] at hre z3 HSN
      have RE : Hid (RdE w1 xu xn xA) := hre
      obtain ⟨xo, xc, hu, -⟩ := RE.out
      subst hu
      have XOK : Hid (∀ e ∈ preE xA xn, e.ok) := pre_ent z3
      have XS : Hid (S64 xt ∧ S64 xm) := ⟨z1, z2⟩
      have e0 := (B4.out.cell (p := ⟨b, o + k * 3, none⟩) hb0).trans c0
      have e1 := (B4.out.cell (p := ⟨b, o + k * 3 + 1, none⟩) hb0).trans c1
      have e2 := (B4.out.cell (p := ⟨b, o + k * 3 + 2, none⟩) hb0).trans c2
      clear c0 c1 c2 hat hre z1 z2 z3 hxt hxm hxu hxn hxA
      go_upto_region 8 with fail
      generalize hW : wr.alloc (.cells #[.int .i64 xt, .int .i64 xm, .slice xo xn xc] 24) = w5
      obtain ⟨T5, bb, -⟩ := boxed hW
      obtain ⟨Tb, hTb⟩ : ∃ x, wr.heap.size = x := ⟨_, rfl⟩
      have NS : Hid (Tb ≠ S ∧ Tb ≠ H ∧ some Tb ≠ v.ownBlock) := ⟨by have := V4.out.blk.lt; omega, by have := V4.out.rng.blk.lt; omega, fun e => by have := (V4.out.rng.own.lt Tb e.symm).2; omega⟩
      rw [hTb] at T5
      rw [hTb]
      have V5 : Hid (StoV w5 H S H v rs s) := V4.out.below bb
      have O5 : Hid (OwnS w5 H va (J.map (triZ Z))) := O4.out.below bb
      have B5 : Hid (Below H w1 w5) := B4.out.trans (bb.mono hz4)
      have hz5 : H ≤ w5.heap.size := Nat.le_trans hz4 bb.size
      have hTw : Tb < w5.heap.size := T5.lt
      have hTH : H < Tb := by have := V4.out.rng.blk.lt; omega
      have hTS : S < Tb := by have := V4.out.blk.lt; omega
      clear hW hTb bb V4 O4 B4 hz4 e0 e1 e2
      have tt0 := T5.cell 0 _ rfl
      have tt1 := T5.cell 1 _ rfl
      have tt2 := T5.cell 2 _ rfl
      have ltt := T5.lt
      by_cases hbg : 64 < xn
      · have dg : decide ((64 : Int) < (xn : Int)) = true := by simp; omega
        go_wp2_with fail
        go_roundg (m - (k + 1))
        case measure => omega
        case rel => exact ⟨k + 1, _, _, _, J, _, by omega, by go_num, rfl, V5.out, SM.out, FW.out, O5.out, OF.out, TL.out, JM.out, CN.out, by omega, B5.out⟩
      have dg : decide ((64 : Int) < (xn : Int)) = false := by simp; omega
      have FU : Hid (Calls Tryz.prog 12 #[snV xt xm (.slice xo xn xc)] w5 fun e w'' => ∃ u, e = .returned (.tuple #[gmV (fulG xt xm (preE xA xn)) u, .int .i64 (fulE xt xm (preE xA xn))]) ∧ OwnR w'' w5.heap.size u (fulL xt xm (preE xA xn)) ∧ Below w5.heap.size w5 w'') := dl_full w5 xt xm _ xn xA (RE.out.below (by rw [HH.out]; exact B5.out))
      have SF : Hid (∀ own : List Sn, (∀ y ∈ own, y.t < xt ∧ y.m < xm) → fulE xt xm (preE xA xn) = 0 → Says' M own ⟨xt, xm, preE xA xn⟩ (fulG xt xm (preE xA xn)) (fulL xt xm (preE xA xn))) := fun own ha h0 => says_full (x := ⟨xt, xm, preE xA xn⟩) hmo1 XS.out.1 XS.out.2 XOK.out ha h0
      have FZ : Hid (fulE xt xm (preE xA xn) ≠ 0 → fulG xt xm (preE xA xn) = ⟨0, 0, 0⟩ ∧ fulL xt xm (preE xA xn) = []) := ful_zero
      obtain ⟨⟨g0, g1, g2⟩, hg⟩ : ∃ x, fulG xt xm (preE xA xn) = x := ⟨_, rfl⟩
      obtain ⟨fE, hfe⟩ : ∃ x, fulE xt xm (preE xA xn) = x := ⟨_, rfl⟩
      obtain ⟨fL, hfl⟩ : ∃ x, fulL xt xm (preE xA xn) = x := ⟨_, rfl⟩
      rw [hg, hfe, hfl] at FU SF FZ
      clear hg hfe hfl
      have GOK : Hid ((⟨g0, g1, g2⟩ : Gm).ok ∧ ∀ i, i < fL.length → (atR fL i).ok) := by
        by_cases h0 : fE = 0
        · have q := SF.out [] (fun y hy => by cases hy) h0
          exact ⟨q.ok, q.recs⟩
        · obtain ⟨q1, q2⟩ := FZ.out h0
          show (⟨g0, g1, g2⟩ : Gm).ok ∧ ∀ i, i < fL.length → (atR fL i).ok
          rw [q1, q2]; exact zero_ok
      go_wp2_with fail
      refine FU.out.mono ?_; rintro e w6 ⟨ug, rfl, og, bb⟩
      have RRa : RdR w6 ug fL.length (atR fL) := og.atR
      obtain ⟨ga, gc, rfl⟩ := og.form
      have OG6 : Hid (OwnR w6 w5.heap.size (.slice ga fL.length gc) fL) := og
      obtain ⟨nr, hnr⟩ : ∃ x, fL.length = x := ⟨_, rfl⟩
      have HNR : Hid (fL.length = nr) := hnr
      rw [hnr] at OG6
      rw [hnr]
      have T6 := T5.below bb T5.lt
      have V6 : Hid (StoV w6 H S H v rs s) := V5.out.below bb
      have O6 : Hid (OwnS w6 H va (J.map (triZ Z))) := O5.out.below bb
      have B6 : Hid (Below H w1 w6) := B5.out.trans (bb.mono hz5)
      have hz6 : H ≤ w6.heap.size := Nat.le_trans hz5 bb.size
      clear FU RRa og hnr bb V5 O5 B5 hz5 T5 tt0 tt1 tt2 ltt
      have hTw6 : Tb < w6.heap.size := T6.lt
      go_upto_region 10 with fail
      generalize hW : w6.alloc (.cells #[.int .i64 g0, .int .i64 g1, .int .i64 g2, .slice ga nr gc] 29) = w7
      obtain ⟨G7, bb, hsz7, hgt⟩ := boxA hW
      clear hsz7
      obtain ⟨Gb, hGb⟩ : ∃ x, w6.heap.size = x := ⟨_, rfl⟩
      rw [hGb] at G7 hgt
      rw [hGb]
      have hGT : Tb < Gb := by omega
      have T7 := T6.below bb T6.lt
      have V7 : Hid (StoV w7 H S H v rs s) := V6.out.below bb
      have O7 : Hid (OwnS w7 H va (J.map (triZ Z))) := O6.out.below bb
      have B7 : Hid (Below H w1 w7) := B6.out.trans (bb.mono hz6)
      have hz7 : H ≤ w7.heap.size := Nat.le_trans hz6 bb.size
      have RR7 : Hid (RdR w7 (.slice ga nr gc) fL.length (atR fL)) := (OG6.out.below bb).atR
      have GT7 : Hid (w7.heap[Gb]? = some (.cells #[.int .i64 g0, .int .i64 g1, .int .i64 g2, .slice ga nr gc] 29 (0, 0))) := hgt
      clear hW hGb hgt bb V6 O6 B6 hz6 T6 OG6 hTw hTw6
      rcases nil_or J with rfl | ⟨J', y, rfl⟩
      · have O7n : Hid (OwnS w7 H va []) := O7.out
        obtain ⟨ta, tc, hv, -⟩ := O7n.out.form
        have hv' : va = .slice ta 0 tc := hv
        subst hv'
        clear hv O7n
        have gg0 := G7.cell 0 _ rfl
        have gg1 := G7.cell 1 _ rfl
        have gg2 := G7.cell 2 _ rfl
        have gg3 := G7.cell 3 _ rfl
        have lgg := G7.lt
        have tt0 := T7.cell 0 _ rfl
        have ltt := T7.lt
        obtain ⟨we, hwe⟩ : ∃ x, wrtE ⟨g0, g1, g2⟩ (atR fL) fL.length = x := ⟨_, rfl⟩
        obtain ⟨wb, hwb⟩ : ∃ x, wrtB ⟨g0, g1, g2⟩ (atR fL) fL.length = x := ⟨_, rfl⟩
        have WR : Hid (Calls Tryz.prog 32 #[gmV ⟨g0, g1, g2⟩ (.slice ga nr gc)] w7 fun e w' => ∃ u, e = .returned (.tuple #[u, .int .i64 we]) ∧ Own w' w7.heap.size u wb ∧ Below w7.heap.size w7 w') := by
          have := gm_write w7 ⟨g0, g1, g2⟩ GOK.out.1 (.slice ga nr gc) fL.length (atR fL) GOK.out.2 RR7.out
          rw [hwe, hwb] at this; exact this
        go_wp2_with fail
        refine WR.out.mono ?_; rintro e w8 ⟨ub, rfl, ob, bb⟩
        obtain ⟨wo, wc, hub, -⟩ := ob.rd
        have RB : Hid (Rd w8 ub wb) := ob.rd
        obtain ⟨wl, hwl⟩ : ∃ x, wb.length = x := ⟨_, rfl⟩
        rw [hwl] at hub
        subst hub
        have T8 := T7.below bb T7.lt
        have V8 : Hid (StoV w8 H S H v rs s) := V7.out.below bb
        have O8 : Hid (OwnS w8 H (.slice ta 0 tc) (([] : List Nat).map (triZ Z))) := O7.out.below bb
        have B8 : Hid (Below H w1 w8) := B7.out.trans (bb.mono hz7)
        have hz8 : H ≤ w8.heap.size := Nat.le_trans hz7 bb.size
        clear gg0 gg1 gg2 gg3 lgg tt0 ltt WR ob bb V7 O7 B7 T7 G7 RR7
        by_cases hz : fE = 0
        · subst hz
          have SY := SF.out [] (fun y hy => by cases hy) rfl
          clear hwl
          by_cases hwz : we = 0
          · subst hwz
            obtain ⟨y1, y2, y3⟩ := SY.wrt hwe
            rw [hwb] at y1 y2 y3
            obtain ⟨y4, y5, y6⟩ := y3 s SM.out TL.out
            have Y6 : Hid (Tel M (([] : List Nat).map (snZ Z) ++ [⟨xt, xm, preE xA xn⟩]) (accS s wb).L) := y6
            have AC : Hid (Calls Tryz.prog 24 #[.pointer (some ⟨S, 0, none⟩), .slice wo wl wc] w8 fun e w'' => e = .returned (.tuple #[.int .i64 xt, .int .i64 0]) ∧ ∃ v' rs', StoV w'' H S H v' rs' (accS s wb) ∧ Chs H S H v v' w8 w'') := by
              have := st_accept w8 H S H v rs s V8.out (by have := V8.out.lens; omega) _ wb y1 (by omega) RB.out
              rw [y4, y5] at this; exact this
            have N6 : Hid ((accS s wb).N.getD 0 0 = ((([] : List Nat).length + 1 : Nat) : Int)) := by
              show (incN s.N (tkE s wb)).getD 0 0 = _
              rw [y4, inc_zero V8.out.num (by rw [CN.out]; omega), CN.out]; rfl
            clear y1 y2 y3 y4 y5 y6 SY hwe hwb
            go_wp2_with fail
            refine AC.out.mono ?_; rintro e w9 ⟨rfl, v', rs', sv, ch⟩
            have V9 : Hid (StoV w9 H S H v' rs' (accS s wb)) := sv
            have O9 : Hid (OwnS w9 H (.slice ta 0 tc) (([] : List Nat).map (triZ Z))) := own_chs (by decide) O8.out V8.out OF.out ch
            have T9 := T8.chs ch NS.out.1 NS.out.2.1 NS.out.2.2
            have B9 : Hid (Below H w1 w9) := B8.out.trans ch.below
            have hz9 : H ≤ w9.heap.size := Nat.le_trans hz8 ch.below.size
            clear AC sv ch V8 O8 B8 T8 RB
            have tt0 := T9.cell 0 _ rfl
            have tt1 := T9.cell 1 _ rfl
            have tt2 := T9.cell 2 _ rfl
            have ltt := T9.lt
            obtain ⟨W6, hW6⟩ : ∃ W6, w9.alloc (.cells #[.int .i64 xt, .int .i64 xm, .slice xo xn xc] 24) = W6 := ⟨_, rfl⟩
            obtain ⟨x1, x2, x3, x4⟩ := boxA hW6
            have V6 : Hid (StoV W6 H S H v' rs' (accS s wb)) := V9.out.below x2
            have O6 : Hid (OwnS W6 H (.slice ta 0 tc) (([] : List Nat).map (triZ Z))) := O9.out.below x2
            have B6 : Hid (Below H w1 W6) := B9.out.trans (x2.mono hz9)
            have hz6 : H ≤ W6.heap.size := by omega
            obtain ⟨Vb, hVb⟩ : ∃ x, w9.heap.size = x := ⟨_, rfl⟩
            rw [hVb] at x1
            have X1 : Hid (Blk W6 Vb [.int .i64 xt, .int .i64 xm, .slice xo xn xc]) := x1
            have hlT : (([] : List Nat).map (triZ Z)).length ≤ 1000000 := by rw [List.length_map]; omega
            clear x1 x2 x3 x4 V9 O9 B9 T9
            go_wp2_with (at_builtin; refine growS_wp rfl _ _ rfl H _ (([] : List Nat).map (triZ Z)) rfl (by exact O6.out) Vb (xt, xm, .slice xo xn xc) rfl rfl (fun j u hu => X1.out.cell j u hu) (by exact hlT) (by exact hz6) ?_; intro va7 w7' o7 g7)
            obtain ⟨V7a, OF7a⟩ := V6.out.growN (by decide) (by decide) O6.out g7 OF.out
            have F7 : Hid (Few (accS s wb).L) := few_tk FW.out
            go_roundg (m - (k + 1))
            case measure => omega
            case rel => exact ⟨k + 1, _, _, _, ([] : List Nat) ++ [k], _, by omega, by go_num, rfl, V7a, SM.out, F7.out, (by rw [List.map_append, List.map_singleton, HTR.out]; exact o7), OF7a, (by rw [List.map_append, List.map_singleton, HSN.out]; exact Y6.out), (fun i hi => by rcases List.mem_append.1 hi with hi | hi; exact JM.out i hi; rw [List.mem_singleton.1 hi]; exact hlt), (by rw [List.length_append]; exact N6.out), (by have := hJk; simp only [List.length_append, List.length_cons, List.length_nil] at this ⊢; omega), B6.out.trans g7.below⟩
          · have hq2 : (we != 0) = true := by simpa using hwz
            go_wp2_with fail
            go_roundg (m - (k + 1))
            case measure => omega
            case rel => exact ⟨k + 1, _, _, _, ([] : List Nat), _, by omega, by go_num, rfl, V8.out, SM.out, FW.out, O8.out, OF.out, TL.out, JM.out, CN.out, by omega, B8.out⟩
        · have hq : (fE != 0) = true := by simpa using hz
          go_wp2_with fail
          go_roundg (m - (k + 1))
          case measure => omega
          case rel => exact ⟨k + 1, _, _, _, ([] : List Nat), _, by omega, by go_num, rfl, V8.out, SM.out, FW.out, O8.out, OF.out, TL.out, JM.out, CN.out, by omega, B8.out⟩
      · obtain ⟨ta, tc, hv, t1, t2, tf⟩ := O7.out.form
        obtain ⟨j1, hj1⟩ : ∃ x, J'.length = x := ⟨_, rfl⟩
        have hlj : ((J' ++ [y]).map (triZ Z)).length = j1 + 1 := by simp [hj1]
        rw [hlj] at hv t1
        subst hv
        obtain ⟨gq, hta, hgl, hcs⟩ := tf (by simp)
        subst hta
        have hyy := hcs j1 (by omega)
        have hye : ((J' ++ [y]).map (triZ Z))[j1]'(by omega) = triZ Z y := by simp [← hj1]
        rw [hye] at hyy
        obtain ⟨p0, p1, p2⟩ := hyy
        have hym : y < m := JM.out y (by simp)
        obtain ⟨_, _, _, hre⟩ := HAT.out y hym
        obtain ⟨z1, z2, z3⟩ := HZ.out y hym
        have HSY : Hid (snZ Z y = ⟨Z.T y, Z.M y, preE (Z.A y) (Z.N y)⟩) := rfl
        change w7.cell? _ = some (.int .i64 (Z.T y)) at p0
        change w7.cell? _ = some (.int .i64 (Z.M y)) at p1
        change w7.cell? _ = some (Z.U y) at p2
        obtain ⟨yt, hyt⟩ : ∃ q, Z.T y = q := ⟨_, rfl⟩
        obtain ⟨ym, hymm⟩ : ∃ q, Z.M y = q := ⟨_, rfl⟩
        obtain ⟨yu, hyu⟩ : ∃ q, Z.U y = q := ⟨_, rfl⟩
        obtain ⟨yn, hyn⟩ : ∃ q, Z.N y = q := ⟨_, rfl⟩
        obtain ⟨yA, hyA⟩ : ∃ q, Z.A y = q := ⟨_, rfl⟩
        rw [hyt] at p0 z1 HSY
        rw [hymm] at p1 z2 HSY
        rw [hyu] at p2 hre
        rw [hyn] at hre z3 HSY
        rw [hyA] at hre z3 HSY
        have REY : Hid (RdE w1 yu yn yA) := hre
        obtain ⟨yo, yc, hu, -⟩ := REY.out
        subst hu
        have YOK : Hid (∀ e ∈ preE yA yn, e.ok) := pre_ent z3
        have YAK : Hid (∀ i, i < yn → (yA i).ok) := z3
        have YS : Hid (S64 yt) := z1
        have hw1 : IntKind.i64.wrap ((j1 : Int) + 1 - 1) = (j1 : Int) := by rw [IntKind.wrap_i64]; omega
        have hw2 : IntKind.i64.wrap (j1 : Int) = (j1 : Int) := by rw [IntKind.wrap_i64]; omega
        have i1 : (0 : Int) ≤ (j1 : Int) := by omega
        have i2 : (j1 : Int) < (j1 : Int) + 1 := by omega
        have i3 : (0 : Int) < (j1 : Int) + 1 := by omega
        clear hye hcs tf hre z1 z2 z3 hyt hymm hyu hyn hyA
        have tt0 := T7.cell 0 _ rfl
        have tt1 := T7.cell 1 _ rfl
        have ltt := T7.lt
        go_upto_region 12 with fail
        generalize hW : w7.alloc (.cells #[.int .i64 yt, .int .i64 ym, .slice yo yn yc] 24) = w8
        obtain ⟨Y8, bb, -⟩ := boxed hW
        obtain ⟨Yb, hYb⟩ : ∃ x, w7.heap.size = x := ⟨_, rfl⟩
        have hGw : Gb < Yb := by rw [← hYb]; exact G7.lt
        have GT8 : Hid (w8.heap[Gb]? = some (.cells #[.int .i64 g0, .int .i64 g1, .int .i64 g2, .slice ga nr gc] 29 (0, 0))) := (bb.block Gb G7.lt).trans GT7.out
        rw [hYb] at Y8
        rw [hYb]
        have T8 := T7.below bb T7.lt
        have G8 := G7.below bb G7.lt
        have V8 : Hid (StoV w8 H S H v rs s) := V7.out.below bb
        have O8 : Hid (OwnS w8 H (.slice (some ⟨gq, 0, none⟩) (j1 + 1) tc) ((J' ++ [y]).map (triZ Z))) := O7.out.below bb
        have B8 : Hid (Below H w1 w8) := B7.out.trans (bb.mono hz7)
        have hz8 : H ≤ w8.heap.size := Nat.le_trans hz7 bb.size
        have RR8 : Hid (RdR w8 (.slice ga nr gc) fL.length (atR fL)) := RR7.out.below bb
        clear hW hYb bb V7 O7 B7 hz7 T7 G7 GT7 RR7 tt0 tt1 ltt p0 p1 p2
        have tt0 := T8.cell 0 _ rfl
        have tt1 := T8.cell 1 _ rfl
        have tt2 := T8.cell 2 _ rfl
        have ltt := T8.lt
        have yy0 := Y8.cell 0 _ rfl
        have yy1 := Y8.cell 1 _ rfl
        have yy2 := Y8.cell 2 _ rfl
        have lyy := Y8.lt
        by_cases hc1 : xt ≤ yt
        · have hd1 : decide (xt ≤ yt) = true := by simpa using hc1
          go_wp2_with fail
          go_roundg (m - (k + 1))
          case measure => omega
          case rel => exact ⟨k + 1, _, _, _, (J' ++ [y]), _, by omega, by go_num, rfl, V8.out, SM.out, FW.out, O8.out, OF.out, TL.out, JM.out, CN.out, by omega, B8.out⟩
        have hd1 : decide (xt ≤ yt) = false := by simpa using hc1
        by_cases hc2 : xm ≤ ym
        · have hd2 : decide (xm ≤ ym) = true := by simpa using hc2
          go_wp2_with fail
          go_roundg (m - (k + 1))
          case measure => omega
          case rel => exact ⟨k + 1, _, _, _, (J' ++ [y]), _, by omega, by go_num, rfl, V8.out, SM.out, FW.out, O8.out, OF.out, TL.out, JM.out, CN.out, by omega, B8.out⟩
        have hd2 : decide (xm ≤ ym) = false := by simpa using hc2
        have ALL : Hid (∀ z ∈ (J' ++ [y]).map (snZ Z), z.t < xt ∧ z.m < xm) := by
          have h := TL.out.rise
          rw [List.map_append, List.map_singleton] at h
          show ∀ z ∈ (J' ++ [y]).map (snZ Z), z.t < xt ∧ z.m < xm
          rw [List.map_append, List.map_singleton]
          exact tel_all (x := ⟨xt, xm, []⟩) h (by rw [HSY.out]; exact ⟨by show yt < xt; omega, by show ym < xm; omega⟩)
        have DI : Hid (∀ w', Below H w1 w' → Calls Tryz.prog 10 #[snV yt ym (.slice yo yn yc), snV xt xm (.slice xo xn xc)] w' fun e w'' => ∃ u, e = .returned (.tuple #[gmV (dlG yt ym (preE yA yn) xt xm (preE xA xn)) u, .int .i64 (dlE yt ym (preE yA yn) xt xm (preE xA xn))]) ∧ OwnR w'' w'.heap.size u (dlL yt ym (preE yA yn) xt xm (preE xA xn)) ∧ Below w'.heap.size w' w'') := fun w' hb => dl_diff w' yt ym _ yn yA YAK.out (REY.out.below (by rw [HH.out]; exact hb)) xt xm _ xn xA (RE.out.below (by rw [HH.out]; exact hb))
        have SD : Hid (dlE yt ym (preE yA yn) xt xm (preE xA xn) = 0 → Says' M ((J' ++ [y]).map (snZ Z)) ⟨xt, xm, preE xA xn⟩ (dlG yt ym (preE yA yn) xt xm (preE xA xn)) (dlL yt ym (preE yA yn) xt xm (preE xA xn))) := fun h0 => by
          show Says' M ((J' ++ [y]).map (snZ Z)) ⟨xt, xm, preE xA xn⟩ _ _
          rw [List.map_append, List.map_singleton, HSY.out]
          exact says_diff (x := ⟨xt, xm, preE xA xn⟩) (y := ⟨yt, ym, preE yA yn⟩) hmo1 YS.out XS.out.1 XS.out.2 XOK.out YOK.out ⟨by show yt < xt; omega, by show ym < xm; omega⟩ h0
        have DZ : Hid (dlE yt ym (preE yA yn) xt xm (preE xA xn) ≠ 0 → dlG yt ym (preE yA yn) xt xm (preE xA xn) = ⟨0, 0, 0⟩ ∧ dlL yt ym (preE yA yn) xt xm (preE xA xn) = []) := dl_no
        obtain ⟨⟨d0, d1', d2⟩, hg⟩ : ∃ x, dlG yt ym (preE yA yn) xt xm (preE xA xn) = x := ⟨_, rfl⟩
        obtain ⟨dE, hfe⟩ : ∃ x, dlE yt ym (preE yA yn) xt xm (preE xA xn) = x := ⟨_, rfl⟩
        obtain ⟨dL, hfl⟩ : ∃ x, dlL yt ym (preE yA yn) xt xm (preE xA xn) = x := ⟨_, rfl⟩
        rw [hg, hfe, hfl] at DI SD DZ
        clear hg hfe hfl
        by_cases hkf : k < nf
        · obtain ⟨fb, fo2, rfl, fat⟩ := Q3.out.resolve_left (by omega)
          have q1 := fat k hkf
          have hfb : fb < H := by have := World.block_lt_of_cell? w1 _ q1; have := HH.out; simp only at *; omega
          have q2 := (B8.out.cell (p := ⟨fb, fo2 + k, none⟩) hfb).trans q1
          obtain ⟨ff, hff⟩ : ∃ x, F k = x := ⟨_, rfl⟩
          rw [hff] at q2
          have j2 : (0 : Int) ≤ (k : Int) := by omega
          have j3 : (k : Int) < (nf : Int) := by omega
          clear fat q1 hff
          cases ff with
          | false =>
            have dd0 := G8.cell 0 _ rfl
            have dd1 := G8.cell 1 _ rfl
            have dd2 := G8.cell 2 _ rfl
            have dd3 := G8.cell 3 _ rfl
            go_wp2_with fail
            refine (DI.out w8 B8.out).mono ?_; rintro e w9 ⟨ud, rfl, od, bb⟩
            obtain ⟨da, dc, rfl⟩ := od.form
            obtain ⟨nd, hnd⟩ : ∃ x, dL.length = x := ⟨_, rfl⟩
            have OD9 : Hid (OwnR w9 w8.heap.size (.slice da dL.length dc) dL) := od
            rw [hnd] at OD9
            rw [hnd]
            have GT9 : Hid (w9.heap[Gb]? = some (.cells #[.int .i64 g0, .int .i64 g1, .int .i64 g2, .slice ga nr gc] 29 (0, 0))) := (bb.block Gb G8.lt).trans GT8.out
            have T9 := T8.below bb T8.lt
            have G9 := G8.below bb G8.lt
            have V9 : Hid (StoV w9 H S H v rs s) := V8.out.below bb
            have O9 : Hid (OwnS w9 H (.slice (some ⟨gq, 0, none⟩) (j1 + 1) tc) ((J' ++ [y]).map (triZ Z))) := O8.out.below bb
            have B9 : Hid (Below H w1 w9) := B8.out.trans (bb.mono hz8)
            have hz9 : H ≤ w9.heap.size := Nat.le_trans hz8 bb.size
            clear dd0 dd1 dd2 dd3 tt0 tt1 tt2 ltt yy0 yy1 yy2 lyy od bb V8 O8 B8 hz8 T8 G8 Y8 GT8 RR8 GOK SF FZ DI
            have GOK : Hid ((⟨d0, d1', d2⟩ : Gm).ok ∧ ∀ i, i < dL.length → (atR dL i).ok) := by
              by_cases h0 : dE = 0
              · have q := SD.out h0
                exact ⟨q.ok, q.recs⟩
              · obtain ⟨q1, q2⟩ := DZ.out h0
                show (⟨d0, d1', d2⟩ : Gm).ok ∧ ∀ i, i < dL.length → (atR dL i).ok
                rw [q1, q2]; exact zero_ok
            have dd0 := G9.cell 0 _ rfl
            have dd1 := G9.cell 1 _ rfl
            have dd2 := G9.cell 2 _ rfl
            have dd3 := G9.cell 3 _ rfl
            have df0 := G9.froz 0
            have df1 := G9.froz 1
            have df2 := G9.froz 2
            have df3 := G9.froz 3
            have ldd := G9.lt
            go_upto_region 15 with fail
            have k4 := grown4 w9 Gb (.int .i64 d0) (.int .i64 d1') (.int .i64 d2) (.slice da nd dc)
            have G10 := set4 (.int .i64 d0) (.int .i64 d1') (.int .i64 d2) (.slice da nd dc) G9
            generalize hX : (((w9.setCell ⟨Gb, 0, none⟩ (.int .i64 d0)).setCell ⟨Gb, 1, none⟩ (.int .i64 d1')).setCell ⟨Gb, 2, none⟩ (.int .i64 d2)).setCell ⟨Gb, 3, none⟩ (.slice da nd dc) = w10 at k4 G10 ⊢
            have T10 := T9.grwn k4 (fun e => by injection e with e; omega)
            have V10 : Hid (StoV w10 H S H v rs s) := V9.out.box (by decide) (by decide) GT9.out (by omega) (by omega) k4
            have O10 : Hid (OwnS w10 H (.slice (some ⟨gq, 0, none⟩) (j1 + 1) tc) ((J' ++ [y]).map (triZ Z))) := own_box (by decide) O9.out GT9.out k4
            have OD10 : OwnR w10 w8.heap.size (.slice da nd dc) dL := own_box (by decide) OD9.out GT9.out k4
            have B10 : Hid (Below H w1 w10) := B9.out.trans ((Below.refl H w9).grown k4 hz9 (fun q hq => by injection hq with hq; omega))
            have hz10 : H ≤ w10.heap.size := Nat.le_trans hz9 k4.size
            have RR10 : Hid (RdR w10 (.slice da nd dc) dL.length (atR dL)) := OD10.atR
            clear dd0 dd1 dd2 dd3 df0 df1 df2 df3 ldd k4 hX OD10 OD9 V9 O9 B9 hz9 T9 G9 GT9 hnd
            have gg0 := G10.cell 0 _ rfl
            have gg1 := G10.cell 1 _ rfl
            have gg2 := G10.cell 2 _ rfl
            have gg3 := G10.cell 3 _ rfl
            have lgg := G10.lt
            have tt0 := T10.cell 0 _ rfl
            have ltt := T10.lt
            obtain ⟨we, hwe⟩ : ∃ x, wrtE ⟨d0, d1', d2⟩ (atR dL) dL.length = x := ⟨_, rfl⟩
            obtain ⟨wb, hwb⟩ : ∃ x, wrtB ⟨d0, d1', d2⟩ (atR dL) dL.length = x := ⟨_, rfl⟩
            have WR : Hid (Calls Tryz.prog 32 #[gmV ⟨d0, d1', d2⟩ (.slice da nd dc)] w10 fun e w' => ∃ u, e = .returned (.tuple #[u, .int .i64 we]) ∧ Own w' w10.heap.size u wb ∧ Below w10.heap.size w10 w') := by
              have := gm_write w10 ⟨d0, d1', d2⟩ GOK.out.1 (.slice da nd dc) dL.length (atR dL) GOK.out.2 RR10.out
              rw [hwe, hwb] at this; exact this
            go_wp2_with fail
            refine WR.out.mono ?_; rintro e w11 ⟨ub, rfl, ob, bb⟩
            obtain ⟨wo, wc, hub, -⟩ := ob.rd
            have RB : Hid (Rd w11 ub wb) := ob.rd
            obtain ⟨wl, hwl⟩ : ∃ x, wb.length = x := ⟨_, rfl⟩
            rw [hwl] at hub
            subst hub
            have T11 := T10.below bb T10.lt
            have V11 : Hid (StoV w11 H S H v rs s) := V10.out.below bb
            have O11 : Hid (OwnS w11 H (.slice (some ⟨gq, 0, none⟩) (j1 + 1) tc) ((J' ++ [y]).map (triZ Z))) := O10.out.below bb
            have B11 : Hid (Below H w1 w11) := B10.out.trans (bb.mono hz10)
            have hz11 : H ≤ w11.heap.size := Nat.le_trans hz10 bb.size
            clear gg0 gg1 gg2 gg3 lgg tt0 ltt WR ob bb V10 O10 B10 T10 G10 RR10
            by_cases hz : dE = 0
            · subst hz
              have SY := SD.out rfl
              clear hwl
              by_cases hwz : we = 0
              · subst hwz
                obtain ⟨y1, y2, y3⟩ := SY.wrt hwe
                rw [hwb] at y1 y2 y3
                obtain ⟨y4, y5, y6⟩ := y3 s SM.out TL.out
                have Y6 : Hid (Tel M ((J' ++ [y]).map (snZ Z) ++ [⟨xt, xm, preE xA xn⟩]) (accS s wb).L) := y6
                have AC : Hid (Calls Tryz.prog 24 #[.pointer (some ⟨S, 0, none⟩), .slice wo wl wc] w11 fun e w'' => e = .returned (.tuple #[.int .i64 xt, .int .i64 0]) ∧ ∃ v' rs', StoV w'' H S H v' rs' (accS s wb) ∧ Chs H S H v v' w11 w'') := by
                  have := st_accept w11 H S H v rs s V11.out (by have := V11.out.lens; omega) _ wb y1 (by omega) RB.out
                  rw [y4, y5] at this; exact this
                have N6 : Hid ((accS s wb).N.getD 0 0 = (((J' ++ [y]).length + 1 : Nat) : Int)) := by
                  show (incN s.N (tkE s wb)).getD 0 0 = _
                  rw [y4, inc_zero V11.out.num (by rw [CN.out]; omega), CN.out]; rfl
                clear y1 y2 y3 y4 y5 y6 SY hwe hwb
                go_wp2_with fail
                refine AC.out.mono ?_; rintro e w12 ⟨rfl, v', rs', sv, ch⟩
                have V12 : Hid (StoV w12 H S H v' rs' (accS s wb)) := sv
                have O12 : Hid (OwnS w12 H (.slice (some ⟨gq, 0, none⟩) (j1 + 1) tc) ((J' ++ [y]).map (triZ Z))) := own_chs (by decide) O11.out V11.out OF.out ch
                have T12 := T11.chs ch NS.out.1 NS.out.2.1 NS.out.2.2
                have B12 : Hid (Below H w1 w12) := B11.out.trans ch.below
                have hz12 : H ≤ w12.heap.size := Nat.le_trans hz11 ch.below.size
                clear AC sv ch V11 O11 B11 T11 RB
                have tt0 := T12.cell 0 _ rfl
                have tt1 := T12.cell 1 _ rfl
                have tt2 := T12.cell 2 _ rfl
                have ltt := T12.lt
                obtain ⟨W6, hW6⟩ : ∃ W6, w12.alloc (.cells #[.int .i64 xt, .int .i64 xm, .slice xo xn xc] 24) = W6 := ⟨_, rfl⟩
                obtain ⟨x1, x2, x3, x4⟩ := boxA hW6
                have V6 : Hid (StoV W6 H S H v' rs' (accS s wb)) := V12.out.below x2
                have O6 : Hid (OwnS W6 H (.slice (some ⟨gq, 0, none⟩) (j1 + 1) tc) ((J' ++ [y]).map (triZ Z))) := O12.out.below x2
                have B6 : Hid (Below H w1 W6) := B12.out.trans (x2.mono hz12)
                have hz6 : H ≤ W6.heap.size := by omega
                obtain ⟨Vb, hVb⟩ : ∃ x, w12.heap.size = x := ⟨_, rfl⟩
                rw [hVb] at x1
                have X1 : Hid (Blk W6 Vb [.int .i64 xt, .int .i64 xm, .slice xo xn xc]) := x1
                have hlT : ((J' ++ [y]).map (triZ Z)).length ≤ 1000000 := by rw [List.length_map]; omega
                clear x1 x2 x3 x4 V12 O12 B12 T12
                go_wp2_with (at_builtin; refine growS_wp rfl _ _ rfl H _ ((J' ++ [y]).map (triZ Z)) rfl (by exact O6.out) Vb (xt, xm, .slice xo xn xc) rfl rfl (fun j u hu => X1.out.cell j u hu) (by exact hlT) (by exact hz6) ?_; intro va7 w7' o7 g7)
                obtain ⟨V7a, OF7a⟩ := V6.out.growN (by decide) (by decide) O6.out g7 OF.out
                have F7 : Hid (Few (accS s wb).L) := few_tk FW.out
                go_roundg (m - (k + 1))
                case measure => omega
                case rel => exact ⟨k + 1, _, _, _, (J' ++ [y]) ++ [k], _, by omega, by go_num, rfl, V7a, SM.out, F7.out, (by rw [List.map_append, List.map_singleton, HTR.out]; exact o7), OF7a, (by rw [List.map_append, List.map_singleton, HSN.out]; exact Y6.out), (fun i hi => by rcases List.mem_append.1 hi with hi | hi; exact JM.out i hi; rw [List.mem_singleton.1 hi]; exact hlt), (by rw [List.length_append]; exact N6.out), (by have := hJk; simp only [List.length_append, List.length_cons, List.length_nil] at this ⊢; omega), B6.out.trans g7.below⟩
              · have hq2 : (we != 0) = true := by simpa using hwz
                go_wp2_with fail
                go_roundg (m - (k + 1))
                case measure => omega
                case rel => exact ⟨k + 1, _, _, _, (J' ++ [y]), _, by omega, by go_num, rfl, V11.out, SM.out, FW.out, O11.out, OF.out, TL.out, JM.out, CN.out, by omega, B11.out⟩
            · have hq : (dE != 0) = true := by simpa using hz
              go_wp2_with fail
              go_roundg (m - (k + 1))
              case measure => omega
              case rel => exact ⟨k + 1, _, _, _, (J' ++ [y]), _, by omega, by go_num, rfl, V11.out, SM.out, FW.out, O11.out, OF.out, TL.out, JM.out, CN.out, by omega, B11.out⟩
          | true =>
            by_cases hz0 : fE = 0
            · subst hz0
              clear DI SD DZ GT8
              have gg0 := G8.cell 0 _ rfl
              have gg1 := G8.cell 1 _ rfl
              have gg2 := G8.cell 2 _ rfl
              have gg3 := G8.cell 3 _ rfl
              have lgg := G8.lt
              have tt0 := T8.cell 0 _ rfl
              have ltt := T8.lt
              obtain ⟨we, hwe⟩ : ∃ x, wrtE ⟨g0, g1, g2⟩ (atR fL) fL.length = x := ⟨_, rfl⟩
              obtain ⟨wb, hwb⟩ : ∃ x, wrtB ⟨g0, g1, g2⟩ (atR fL) fL.length = x := ⟨_, rfl⟩
              have WR : Hid (Calls Tryz.prog 32 #[gmV ⟨g0, g1, g2⟩ (.slice ga nr gc)] w8 fun e w' => ∃ u, e = .returned (.tuple #[u, .int .i64 we]) ∧ Own w' w8.heap.size u wb ∧ Below w8.heap.size w8 w') := by
                have := gm_write w8 ⟨g0, g1, g2⟩ GOK.out.1 (.slice ga nr gc) fL.length (atR fL) GOK.out.2 RR8.out
                rw [hwe, hwb] at this; exact this
              go_wp2_with fail
              refine WR.out.mono ?_; rintro e w9 ⟨ub, rfl, ob, bb⟩
              obtain ⟨wo, wc, hub, -⟩ := ob.rd
              have RB : Hid (Rd w9 ub wb) := ob.rd
              obtain ⟨wl, hwl⟩ : ∃ x, wb.length = x := ⟨_, rfl⟩
              rw [hwl] at hub
              subst hub
              have T9 := T8.below bb T8.lt
              have V9 : Hid (StoV w9 H S H v rs s) := V8.out.below bb
              have O9 : Hid (OwnS w9 H (.slice (some ⟨gq, 0, none⟩) (j1 + 1) tc) ((J' ++ [y]).map (triZ Z))) := O8.out.below bb
              have B9 : Hid (Below H w1 w9) := B8.out.trans (bb.mono hz8)
              have hz9 : H ≤ w9.heap.size := Nat.le_trans hz8 bb.size
              clear gg0 gg1 gg2 gg3 lgg tt0 ltt WR ob bb V8 O8 B8 T8 G8 RR8
              have SY := SF.out _ ALL.out (by first | rfl | trivial)
              clear hwl
              by_cases hwz : we = 0
              · subst hwz
                obtain ⟨y1, y2, y3⟩ := SY.wrt hwe
                rw [hwb] at y1 y2 y3
                obtain ⟨y4, y5, y6⟩ := y3 s SM.out TL.out
                have Y6 : Hid (Tel M ((J' ++ [y]).map (snZ Z) ++ [⟨xt, xm, preE xA xn⟩]) (accS s wb).L) := y6
                have AC : Hid (Calls Tryz.prog 24 #[.pointer (some ⟨S, 0, none⟩), .slice wo wl wc] w9 fun e w'' => e = .returned (.tuple #[.int .i64 xt, .int .i64 0]) ∧ ∃ v' rs', StoV w'' H S H v' rs' (accS s wb) ∧ Chs H S H v v' w9 w'') := by
                  have := st_accept w9 H S H v rs s V9.out (by have := V9.out.lens; omega) _ wb y1 (by omega) RB.out
                  rw [y4, y5] at this; exact this
                have N6 : Hid ((accS s wb).N.getD 0 0 = (((J' ++ [y]).length + 1 : Nat) : Int)) := by
                  show (incN s.N (tkE s wb)).getD 0 0 = _
                  rw [y4, inc_zero V9.out.num (by rw [CN.out]; omega), CN.out]; rfl
                clear y1 y2 y3 y4 y5 y6 SY hwe hwb
                go_wp2_with fail
                refine AC.out.mono ?_; rintro e w10 ⟨rfl, v', rs', sv, ch⟩
                have V10 : Hid (StoV w10 H S H v' rs' (accS s wb)) := sv
                have O10 : Hid (OwnS w10 H (.slice (some ⟨gq, 0, none⟩) (j1 + 1) tc) ((J' ++ [y]).map (triZ Z))) := own_chs (by decide) O9.out V9.out OF.out ch
                have T10 := T9.chs ch NS.out.1 NS.out.2.1 NS.out.2.2
                have B10 : Hid (Below H w1 w10) := B9.out.trans ch.below
                have hz10 : H ≤ w10.heap.size := Nat.le_trans hz9 ch.below.size
                clear AC sv ch V9 O9 B9 T9 RB
                have tt0 := T10.cell 0 _ rfl
                have tt1 := T10.cell 1 _ rfl
                have tt2 := T10.cell 2 _ rfl
                have ltt := T10.lt
                obtain ⟨W6, hW6⟩ : ∃ W6, w10.alloc (.cells #[.int .i64 xt, .int .i64 xm, .slice xo xn xc] 24) = W6 := ⟨_, rfl⟩
                obtain ⟨x1, x2, x3, x4⟩ := boxA hW6
                have V6 : Hid (StoV W6 H S H v' rs' (accS s wb)) := V10.out.below x2
                have O6 : Hid (OwnS W6 H (.slice (some ⟨gq, 0, none⟩) (j1 + 1) tc) ((J' ++ [y]).map (triZ Z))) := O10.out.below x2
                have B6 : Hid (Below H w1 W6) := B10.out.trans (x2.mono hz10)
                have hz6 : H ≤ W6.heap.size := by omega
                obtain ⟨Vb, hVb⟩ : ∃ x, w10.heap.size = x := ⟨_, rfl⟩
                rw [hVb] at x1
                have X1 : Hid (Blk W6 Vb [.int .i64 xt, .int .i64 xm, .slice xo xn xc]) := x1
                have hlT : ((J' ++ [y]).map (triZ Z)).length ≤ 1000000 := by rw [List.length_map]; omega
                clear x1 x2 x3 x4 V10 O10 B10 T10
                go_wp2_with (at_builtin; refine growS_wp rfl _ _ rfl H _ ((J' ++ [y]).map (triZ Z)) rfl (by exact O6.out) Vb (xt, xm, .slice xo xn xc) rfl rfl (fun j u hu => X1.out.cell j u hu) (by exact hlT) (by exact hz6) ?_; intro va7 w7' o7 g7)
                obtain ⟨V7a, OF7a⟩ := V6.out.growN (by decide) (by decide) O6.out g7 OF.out
                have F7 : Hid (Few (accS s wb).L) := few_tk FW.out
                go_roundg (m - (k + 1))
                case measure => omega
                case rel => exact ⟨k + 1, _, _, _, (J' ++ [y]) ++ [k], _, by omega, by go_num, rfl, V7a, SM.out, F7.out, (by rw [List.map_append, List.map_singleton, HTR.out]; exact o7), OF7a, (by rw [List.map_append, List.map_singleton, HSN.out]; exact Y6.out), (fun i hi => by rcases List.mem_append.1 hi with hi | hi; exact JM.out i hi; rw [List.mem_singleton.1 hi]; exact hlt), (by rw [List.length_append]; exact N6.out), (by have := hJk; simp only [List.length_append, List.length_cons, List.length_nil] at this ⊢; omega), B6.out.trans g7.below⟩
              · have hq2 : (we != 0) = true := by simpa using hwz
                go_wp2_with fail
                go_roundg (m - (k + 1))
                case measure => omega
                case rel => exact ⟨k + 1, _, _, _, (J' ++ [y]), _, by omega, by go_num, rfl, V9.out, SM.out, FW.out, O9.out, OF.out, TL.out, JM.out, CN.out, by omega, B9.out⟩
            · have hq0 : (fE != 0) = true := by simpa using hz0
              have dd0 := G8.cell 0 _ rfl
              have dd1 := G8.cell 1 _ rfl
              have dd2 := G8.cell 2 _ rfl
              have dd3 := G8.cell 3 _ rfl
              go_wp2_with fail
              refine (DI.out w8 B8.out).mono ?_; rintro e w9 ⟨ud, rfl, od, bb⟩
              obtain ⟨da, dc, rfl⟩ := od.form
              obtain ⟨nd, hnd⟩ : ∃ x, dL.length = x := ⟨_, rfl⟩
              have OD9 : Hid (OwnR w9 w8.heap.size (.slice da dL.length dc) dL) := od
              rw [hnd] at OD9
              rw [hnd]
              have GT9 : Hid (w9.heap[Gb]? = some (.cells #[.int .i64 g0, .int .i64 g1, .int .i64 g2, .slice ga nr gc] 29 (0, 0))) := (bb.block Gb G8.lt).trans GT8.out
              have T9 := T8.below bb T8.lt
              have G9 := G8.below bb G8.lt
              have V9 : Hid (StoV w9 H S H v rs s) := V8.out.below bb
              have O9 : Hid (OwnS w9 H (.slice (some ⟨gq, 0, none⟩) (j1 + 1) tc) ((J' ++ [y]).map (triZ Z))) := O8.out.below bb
              have B9 : Hid (Below H w1 w9) := B8.out.trans (bb.mono hz8)
              have hz9 : H ≤ w9.heap.size := Nat.le_trans hz8 bb.size
              clear dd0 dd1 dd2 dd3 tt0 tt1 tt2 ltt yy0 yy1 yy2 lyy od bb V8 O8 B8 hz8 T8 G8 Y8 GT8 RR8 GOK SF FZ DI
              have GOK : Hid ((⟨d0, d1', d2⟩ : Gm).ok ∧ ∀ i, i < dL.length → (atR dL i).ok) := by
                by_cases h0 : dE = 0
                · have q := SD.out h0
                  exact ⟨q.ok, q.recs⟩
                · obtain ⟨q1, q2⟩ := DZ.out h0
                  show (⟨d0, d1', d2⟩ : Gm).ok ∧ ∀ i, i < dL.length → (atR dL i).ok
                  rw [q1, q2]; exact zero_ok
              have dd0 := G9.cell 0 _ rfl
              have dd1 := G9.cell 1 _ rfl
              have dd2 := G9.cell 2 _ rfl
              have dd3 := G9.cell 3 _ rfl
              have df0 := G9.froz 0
              have df1 := G9.froz 1
              have df2 := G9.froz 2
              have df3 := G9.froz 3
              have ldd := G9.lt
              go_upto_region 15 with fail
              have k4 := grown4 w9 Gb (.int .i64 d0) (.int .i64 d1') (.int .i64 d2) (.slice da nd dc)
              have G10 := set4 (.int .i64 d0) (.int .i64 d1') (.int .i64 d2) (.slice da nd dc) G9
              generalize hX : (((w9.setCell ⟨Gb, 0, none⟩ (.int .i64 d0)).setCell ⟨Gb, 1, none⟩ (.int .i64 d1')).setCell ⟨Gb, 2, none⟩ (.int .i64 d2)).setCell ⟨Gb, 3, none⟩ (.slice da nd dc) = w10 at k4 G10 ⊢
              have T10 := T9.grwn k4 (fun e => by injection e with e; omega)
              have V10 : Hid (StoV w10 H S H v rs s) := V9.out.box (by decide) (by decide) GT9.out (by omega) (by omega) k4
              have O10 : Hid (OwnS w10 H (.slice (some ⟨gq, 0, none⟩) (j1 + 1) tc) ((J' ++ [y]).map (triZ Z))) := own_box (by decide) O9.out GT9.out k4
              have OD10 : OwnR w10 w8.heap.size (.slice da nd dc) dL := own_box (by decide) OD9.out GT9.out k4
              have B10 : Hid (Below H w1 w10) := B9.out.trans ((Below.refl H w9).grown k4 hz9 (fun q hq => by injection hq with hq; omega))
              have hz10 : H ≤ w10.heap.size := Nat.le_trans hz9 k4.size
              have RR10 : Hid (RdR w10 (.slice da nd dc) dL.length (atR dL)) := OD10.atR
              clear dd0 dd1 dd2 dd3 df0 df1 df2 df3 ldd k4 hX OD10 OD9 V9 O9 B9 hz9 T9 G9 GT9 hnd
              have gg0 := G10.cell 0 _ rfl
              have gg1 := G10.cell 1 _ rfl
              have gg2 := G10.cell 2 _ rfl
              have gg3 := G10.cell 3 _ rfl
              have lgg := G10.lt
              have tt0 := T10.cell 0 _ rfl
              have ltt := T10.lt
              obtain ⟨we, hwe⟩ : ∃ x, wrtE ⟨d0, d1', d2⟩ (atR dL) dL.length = x := ⟨_, rfl⟩
              obtain ⟨wb, hwb⟩ : ∃ x, wrtB ⟨d0, d1', d2⟩ (atR dL) dL.length = x := ⟨_, rfl⟩
              have WR : Hid (Calls Tryz.prog 32 #[gmV ⟨d0, d1', d2⟩ (.slice da nd dc)] w10 fun e w' => ∃ u, e = .returned (.tuple #[u, .int .i64 we]) ∧ Own w' w10.heap.size u wb ∧ Below w10.heap.size w10 w') := by
                have := gm_write w10 ⟨d0, d1', d2⟩ GOK.out.1 (.slice da nd dc) dL.length (atR dL) GOK.out.2 RR10.out
                rw [hwe, hwb] at this; exact this
              go_wp2_with fail
              refine WR.out.mono ?_; rintro e w11 ⟨ub, rfl, ob, bb⟩
              obtain ⟨wo, wc, hub, -⟩ := ob.rd
              have RB : Hid (Rd w11 ub wb) := ob.rd
              obtain ⟨wl, hwl⟩ : ∃ x, wb.length = x := ⟨_, rfl⟩
              rw [hwl] at hub
              subst hub
              have T11 := T10.below bb T10.lt
              have V11 : Hid (StoV w11 H S H v rs s) := V10.out.below bb
              have O11 : Hid (OwnS w11 H (.slice (some ⟨gq, 0, none⟩) (j1 + 1) tc) ((J' ++ [y]).map (triZ Z))) := O10.out.below bb
              have B11 : Hid (Below H w1 w11) := B10.out.trans (bb.mono hz10)
              have hz11 : H ≤ w11.heap.size := Nat.le_trans hz10 bb.size
              clear gg0 gg1 gg2 gg3 lgg tt0 ltt WR ob bb V10 O10 B10 T10 G10 RR10
              by_cases hz : dE = 0
              · subst hz
                have SY := SD.out rfl
                clear hwl
                by_cases hwz : we = 0
                · subst hwz
                  obtain ⟨y1, y2, y3⟩ := SY.wrt hwe
                  rw [hwb] at y1 y2 y3
                  obtain ⟨y4, y5, y6⟩ := y3 s SM.out TL.out
                  have Y6 : Hid (Tel M ((J' ++ [y]).map (snZ Z) ++ [⟨xt, xm, preE xA xn⟩]) (accS s wb).L) := y6
                  have AC : Hid (Calls Tryz.prog 24 #[.pointer (some ⟨S, 0, none⟩), .slice wo wl wc] w11 fun e w'' => e = .returned (.tuple #[.int .i64 xt, .int .i64 0]) ∧ ∃ v' rs', StoV w'' H S H v' rs' (accS s wb) ∧ Chs H S H v v' w11 w'') := by
                    have := st_accept w11 H S H v rs s V11.out (by have := V11.out.lens; omega) _ wb y1 (by omega) RB.out
                    rw [y4, y5] at this; exact this
                  have N6 : Hid ((accS s wb).N.getD 0 0 = (((J' ++ [y]).length + 1 : Nat) : Int)) := by
                    show (incN s.N (tkE s wb)).getD 0 0 = _
                    rw [y4, inc_zero V11.out.num (by rw [CN.out]; omega), CN.out]; rfl
                  clear y1 y2 y3 y4 y5 y6 SY hwe hwb
                  go_wp2_with fail
                  refine AC.out.mono ?_; rintro e w12 ⟨rfl, v', rs', sv, ch⟩
                  have V12 : Hid (StoV w12 H S H v' rs' (accS s wb)) := sv
                  have O12 : Hid (OwnS w12 H (.slice (some ⟨gq, 0, none⟩) (j1 + 1) tc) ((J' ++ [y]).map (triZ Z))) := own_chs (by decide) O11.out V11.out OF.out ch
                  have T12 := T11.chs ch NS.out.1 NS.out.2.1 NS.out.2.2
                  have B12 : Hid (Below H w1 w12) := B11.out.trans ch.below
                  have hz12 : H ≤ w12.heap.size := Nat.le_trans hz11 ch.below.size
                  clear AC sv ch V11 O11 B11 T11 RB
                  have tt0 := T12.cell 0 _ rfl
                  have tt1 := T12.cell 1 _ rfl
                  have tt2 := T12.cell 2 _ rfl
                  have ltt := T12.lt
                  obtain ⟨W6, hW6⟩ : ∃ W6, w12.alloc (.cells #[.int .i64 xt, .int .i64 xm, .slice xo xn xc] 24) = W6 := ⟨_, rfl⟩
                  obtain ⟨x1, x2, x3, x4⟩ := boxA hW6
                  have V6 : Hid (StoV W6 H S H v' rs' (accS s wb)) := V12.out.below x2
                  have O6 : Hid (OwnS W6 H (.slice (some ⟨gq, 0, none⟩) (j1 + 1) tc) ((J' ++ [y]).map (triZ Z))) := O12.out.below x2
                  have B6 : Hid (Below H w1 W6) := B12.out.trans (x2.mono hz12)
                  have hz6 : H ≤ W6.heap.size := by omega
                  obtain ⟨Vb, hVb⟩ : ∃ x, w12.heap.size = x := ⟨_, rfl⟩
                  rw [hVb] at x1
                  have X1 : Hid (Blk W6 Vb [.int .i64 xt, .int .i64 xm, .slice xo xn xc]) := x1
                  have hlT : ((J' ++ [y]).map (triZ Z)).length ≤ 1000000 := by rw [List.length_map]; omega
                  clear x1 x2 x3 x4 V12 O12 B12 T12
                  go_wp2_with (at_builtin; refine growS_wp rfl _ _ rfl H _ ((J' ++ [y]).map (triZ Z)) rfl (by exact O6.out) Vb (xt, xm, .slice xo xn xc) rfl rfl (fun j u hu => X1.out.cell j u hu) (by exact hlT) (by exact hz6) ?_; intro va7 w7' o7 g7)
                  obtain ⟨V7a, OF7a⟩ := V6.out.growN (by decide) (by decide) O6.out g7 OF.out
                  have F7 : Hid (Few (accS s wb).L) := few_tk FW.out
                  go_roundg (m - (k + 1))
                  case measure => omega
                  case rel => exact ⟨k + 1, _, _, _, (J' ++ [y]) ++ [k], _, by omega, by go_num, rfl, V7a, SM.out, F7.out, (by rw [List.map_append, List.map_singleton, HTR.out]; exact o7), OF7a, (by rw [List.map_append, List.map_singleton, HSN.out]; exact Y6.out), (fun i hi => by rcases List.mem_append.1 hi with hi | hi; exact JM.out i hi; rw [List.mem_singleton.1 hi]; exact hlt), (by rw [List.length_append]; exact N6.out), (by have := hJk; simp only [List.length_append, List.length_cons, List.length_nil] at this ⊢; omega), B6.out.trans g7.below⟩
                · have hq2 : (we != 0) = true := by simpa using hwz
                  go_wp2_with fail
                  go_roundg (m - (k + 1))
                  case measure => omega
                  case rel => exact ⟨k + 1, _, _, _, (J' ++ [y]), _, by omega, by go_num, rfl, V11.out, SM.out, FW.out, O11.out, OF.out, TL.out, JM.out, CN.out, by omega, B11.out⟩
              · have hq : (dE != 0) = true := by simpa using hz
                go_wp2_with fail
                go_roundg (m - (k + 1))
                case measure => omega
                case rel => exact ⟨k + 1, _, _, _, (J' ++ [y]), _, by omega, by go_num, rfl, V11.out, SM.out, FW.out, O11.out, OF.out, TL.out, JM.out, CN.out, by omega, B11.out⟩
        · have j3 : decide ((k : Int) < (nf : Int)) = false := by simp; omega
          by_cases hz0 : fE = 0
          · subst hz0
            clear DI SD DZ GT8
            have gg0 := G8.cell 0 _ rfl
            have gg1 := G8.cell 1 _ rfl
            have gg2 := G8.cell 2 _ rfl
            have gg3 := G8.cell 3 _ rfl
            have lgg := G8.lt
            have tt0 := T8.cell 0 _ rfl
            have ltt := T8.lt
            obtain ⟨we, hwe⟩ : ∃ x, wrtE ⟨g0, g1, g2⟩ (atR fL) fL.length = x := ⟨_, rfl⟩
            obtain ⟨wb, hwb⟩ : ∃ x, wrtB ⟨g0, g1, g2⟩ (atR fL) fL.length = x := ⟨_, rfl⟩
            have WR : Hid (Calls Tryz.prog 32 #[gmV ⟨g0, g1, g2⟩ (.slice ga nr gc)] w8 fun e w' => ∃ u, e = .returned (.tuple #[u, .int .i64 we]) ∧ Own w' w8.heap.size u wb ∧ Below w8.heap.size w8 w') := by
              have := gm_write w8 ⟨g0, g1, g2⟩ GOK.out.1 (.slice ga nr gc) fL.length (atR fL) GOK.out.2 RR8.out
              rw [hwe, hwb] at this; exact this
            go_wp2_with fail
            refine WR.out.mono ?_; rintro e w9 ⟨ub, rfl, ob, bb⟩
            obtain ⟨wo, wc, hub, -⟩ := ob.rd
            have RB : Hid (Rd w9 ub wb) := ob.rd
            obtain ⟨wl, hwl⟩ : ∃ x, wb.length = x := ⟨_, rfl⟩
            rw [hwl] at hub
            subst hub
            have T9 := T8.below bb T8.lt
            have V9 : Hid (StoV w9 H S H v rs s) := V8.out.below bb
            have O9 : Hid (OwnS w9 H (.slice (some ⟨gq, 0, none⟩) (j1 + 1) tc) ((J' ++ [y]).map (triZ Z))) := O8.out.below bb
            have B9 : Hid (Below H w1 w9) := B8.out.trans (bb.mono hz8)
            have hz9 : H ≤ w9.heap.size := Nat.le_trans hz8 bb.size
            clear gg0 gg1 gg2 gg3 lgg tt0 ltt WR ob bb V8 O8 B8 T8 G8 RR8
            have SY := SF.out _ ALL.out (by first | rfl | trivial)
            clear hwl
            by_cases hwz : we = 0
            · subst hwz
              obtain ⟨y1, y2, y3⟩ := SY.wrt hwe
              rw [hwb] at y1 y2 y3
              obtain ⟨y4, y5, y6⟩ := y3 s SM.out TL.out
              have Y6 : Hid (Tel M ((J' ++ [y]).map (snZ Z) ++ [⟨xt, xm, preE xA xn⟩]) (accS s wb).L) := y6
              have AC : Hid (Calls Tryz.prog 24 #[.pointer (some ⟨S, 0, none⟩), .slice wo wl wc] w9 fun e w'' => e = .returned (.tuple #[.int .i64 xt, .int .i64 0]) ∧ ∃ v' rs', StoV w'' H S H v' rs' (accS s wb) ∧ Chs H S H v v' w9 w'') := by
                have := st_accept w9 H S H v rs s V9.out (by have := V9.out.lens; omega) _ wb y1 (by omega) RB.out
                rw [y4, y5] at this; exact this
              have N6 : Hid ((accS s wb).N.getD 0 0 = (((J' ++ [y]).length + 1 : Nat) : Int)) := by
                show (incN s.N (tkE s wb)).getD 0 0 = _
                rw [y4, inc_zero V9.out.num (by rw [CN.out]; omega), CN.out]; rfl
              clear y1 y2 y3 y4 y5 y6 SY hwe hwb
              go_wp2_with fail
              refine AC.out.mono ?_; rintro e w10 ⟨rfl, v', rs', sv, ch⟩
              have V10 : Hid (StoV w10 H S H v' rs' (accS s wb)) := sv
              have O10 : Hid (OwnS w10 H (.slice (some ⟨gq, 0, none⟩) (j1 + 1) tc) ((J' ++ [y]).map (triZ Z))) := own_chs (by decide) O9.out V9.out OF.out ch
              have T10 := T9.chs ch NS.out.1 NS.out.2.1 NS.out.2.2
              have B10 : Hid (Below H w1 w10) := B9.out.trans ch.below
              have hz10 : H ≤ w10.heap.size := Nat.le_trans hz9 ch.below.size
              clear AC sv ch V9 O9 B9 T9 RB
              have tt0 := T10.cell 0 _ rfl
              have tt1 := T10.cell 1 _ rfl
              have tt2 := T10.cell 2 _ rfl
              have ltt := T10.lt
              obtain ⟨W6, hW6⟩ : ∃ W6, w10.alloc (.cells #[.int .i64 xt, .int .i64 xm, .slice xo xn xc] 24) = W6 := ⟨_, rfl⟩
              obtain ⟨x1, x2, x3, x4⟩ := boxA hW6
              have V6 : Hid (StoV W6 H S H v' rs' (accS s wb)) := V10.out.below x2
              have O6 : Hid (OwnS W6 H (.slice (some ⟨gq, 0, none⟩) (j1 + 1) tc) ((J' ++ [y]).map (triZ Z))) := O10.out.below x2
              have B6 : Hid (Below H w1 W6) := B10.out.trans (x2.mono hz10)
              have hz6 : H ≤ W6.heap.size := by omega
              obtain ⟨Vb, hVb⟩ : ∃ x, w10.heap.size = x := ⟨_, rfl⟩
              rw [hVb] at x1
              have X1 : Hid (Blk W6 Vb [.int .i64 xt, .int .i64 xm, .slice xo xn xc]) := x1
              have hlT : ((J' ++ [y]).map (triZ Z)).length ≤ 1000000 := by rw [List.length_map]; omega
              clear x1 x2 x3 x4 V10 O10 B10 T10
              go_wp2_with (at_builtin; refine growS_wp rfl _ _ rfl H _ ((J' ++ [y]).map (triZ Z)) rfl (by exact O6.out) Vb (xt, xm, .slice xo xn xc) rfl rfl (fun j u hu => X1.out.cell j u hu) (by exact hlT) (by exact hz6) ?_; intro va7 w7' o7 g7)
              obtain ⟨V7a, OF7a⟩ := V6.out.growN (by decide) (by decide) O6.out g7 OF.out
              have F7 : Hid (Few (accS s wb).L) := few_tk FW.out
              go_roundg (m - (k + 1))
              case measure => omega
              case rel => exact ⟨k + 1, _, _, _, (J' ++ [y]) ++ [k], _, by omega, by go_num, rfl, V7a, SM.out, F7.out, (by rw [List.map_append, List.map_singleton, HTR.out]; exact o7), OF7a, (by rw [List.map_append, List.map_singleton, HSN.out]; exact Y6.out), (fun i hi => by rcases List.mem_append.1 hi with hi | hi; exact JM.out i hi; rw [List.mem_singleton.1 hi]; exact hlt), (by rw [List.length_append]; exact N6.out), (by have := hJk; simp only [List.length_append, List.length_cons, List.length_nil] at this ⊢; omega), B6.out.trans g7.below⟩
            · have hq2 : (we != 0) = true := by simpa using hwz
              go_wp2_with fail
              go_roundg (m - (k + 1))
              case measure => omega
              case rel => exact ⟨k + 1, _, _, _, (J' ++ [y]), _, by omega, by go_num, rfl, V9.out, SM.out, FW.out, O9.out, OF.out, TL.out, JM.out, CN.out, by omega, B9.out⟩
          · have hq0 : (fE != 0) = true := by simpa using hz0
            have dd0 := G8.cell 0 _ rfl
            have dd1 := G8.cell 1 _ rfl
            have dd2 := G8.cell 2 _ rfl
            have dd3 := G8.cell 3 _ rfl
            go_wp2_with fail
            refine (DI.out w8 B8.out).mono ?_; rintro e w9 ⟨ud, rfl, od, bb⟩
            obtain ⟨da, dc, rfl⟩ := od.form
            obtain ⟨nd, hnd⟩ : ∃ x, dL.length = x := ⟨_, rfl⟩
            have OD9 : Hid (OwnR w9 w8.heap.size (.slice da dL.length dc) dL) := od
            rw [hnd] at OD9
            rw [hnd]
            have GT9 : Hid (w9.heap[Gb]? = some (.cells #[.int .i64 g0, .int .i64 g1, .int .i64 g2, .slice ga nr gc] 29 (0, 0))) := (bb.block Gb G8.lt).trans GT8.out
            have T9 := T8.below bb T8.lt
            have G9 := G8.below bb G8.lt
            have V9 : Hid (StoV w9 H S H v rs s) := V8.out.below bb
            have O9 : Hid (OwnS w9 H (.slice (some ⟨gq, 0, none⟩) (j1 + 1) tc) ((J' ++ [y]).map (triZ Z))) := O8.out.below bb
            have B9 : Hid (Below H w1 w9) := B8.out.trans (bb.mono hz8)
            have hz9 : H ≤ w9.heap.size := Nat.le_trans hz8 bb.size
            clear dd0 dd1 dd2 dd3 tt0 tt1 tt2 ltt yy0 yy1 yy2 lyy od bb V8 O8 B8 hz8 T8 G8 Y8 GT8 RR8 GOK SF FZ DI
            have GOK : Hid ((⟨d0, d1', d2⟩ : Gm).ok ∧ ∀ i, i < dL.length → (atR dL i).ok) := by
              by_cases h0 : dE = 0
              · have q := SD.out h0
                exact ⟨q.ok, q.recs⟩
              · obtain ⟨q1, q2⟩ := DZ.out h0
                show (⟨d0, d1', d2⟩ : Gm).ok ∧ ∀ i, i < dL.length → (atR dL i).ok
                rw [q1, q2]; exact zero_ok
            have dd0 := G9.cell 0 _ rfl
            have dd1 := G9.cell 1 _ rfl
            have dd2 := G9.cell 2 _ rfl
            have dd3 := G9.cell 3 _ rfl
            have df0 := G9.froz 0
            have df1 := G9.froz 1
            have df2 := G9.froz 2
            have df3 := G9.froz 3
            have ldd := G9.lt
            go_upto_region 15 with fail
            have k4 := grown4 w9 Gb (.int .i64 d0) (.int .i64 d1') (.int .i64 d2) (.slice da nd dc)
            have G10 := set4 (.int .i64 d0) (.int .i64 d1') (.int .i64 d2) (.slice da nd dc) G9
            generalize hX : (((w9.setCell ⟨Gb, 0, none⟩ (.int .i64 d0)).setCell ⟨Gb, 1, none⟩ (.int .i64 d1')).setCell ⟨Gb, 2, none⟩ (.int .i64 d2)).setCell ⟨Gb, 3, none⟩ (.slice da nd dc) = w10 at k4 G10 ⊢
            have T10 := T9.grwn k4 (fun e => by injection e with e; omega)
            have V10 : Hid (StoV w10 H S H v rs s) := V9.out.box (by decide) (by decide) GT9.out (by omega) (by omega) k4
            have O10 : Hid (OwnS w10 H (.slice (some ⟨gq, 0, none⟩) (j1 + 1) tc) ((J' ++ [y]).map (triZ Z))) := own_box (by decide) O9.out GT9.out k4
            have OD10 : OwnR w10 w8.heap.size (.slice da nd dc) dL := own_box (by decide) OD9.out GT9.out k4
            have B10 : Hid (Below H w1 w10) := B9.out.trans ((Below.refl H w9).grown k4 hz9 (fun q hq => by injection hq with hq; omega))
            have hz10 : H ≤ w10.heap.size := Nat.le_trans hz9 k4.size
            have RR10 : Hid (RdR w10 (.slice da nd dc) dL.length (atR dL)) := OD10.atR
            clear dd0 dd1 dd2 dd3 df0 df1 df2 df3 ldd k4 hX OD10 OD9 V9 O9 B9 hz9 T9 G9 GT9 hnd
            have gg0 := G10.cell 0 _ rfl
            have gg1 := G10.cell 1 _ rfl
            have gg2 := G10.cell 2 _ rfl
            have gg3 := G10.cell 3 _ rfl
            have lgg := G10.lt
            have tt0 := T10.cell 0 _ rfl
            have ltt := T10.lt
            obtain ⟨we, hwe⟩ : ∃ x, wrtE ⟨d0, d1', d2⟩ (atR dL) dL.length = x := ⟨_, rfl⟩
            obtain ⟨wb, hwb⟩ : ∃ x, wrtB ⟨d0, d1', d2⟩ (atR dL) dL.length = x := ⟨_, rfl⟩
            have WR : Hid (Calls Tryz.prog 32 #[gmV ⟨d0, d1', d2⟩ (.slice da nd dc)] w10 fun e w' => ∃ u, e = .returned (.tuple #[u, .int .i64 we]) ∧ Own w' w10.heap.size u wb ∧ Below w10.heap.size w10 w') := by
              have := gm_write w10 ⟨d0, d1', d2⟩ GOK.out.1 (.slice da nd dc) dL.length (atR dL) GOK.out.2 RR10.out
              rw [hwe, hwb] at this; exact this
            go_wp2_with fail
            refine WR.out.mono ?_; rintro e w11 ⟨ub, rfl, ob, bb⟩
            obtain ⟨wo, wc, hub, -⟩ := ob.rd
            have RB : Hid (Rd w11 ub wb) := ob.rd
            obtain ⟨wl, hwl⟩ : ∃ x, wb.length = x := ⟨_, rfl⟩
            rw [hwl] at hub
            subst hub
            have T11 := T10.below bb T10.lt
            have V11 : Hid (StoV w11 H S H v rs s) := V10.out.below bb
            have O11 : Hid (OwnS w11 H (.slice (some ⟨gq, 0, none⟩) (j1 + 1) tc) ((J' ++ [y]).map (triZ Z))) := O10.out.below bb
            have B11 : Hid (Below H w1 w11) := B10.out.trans (bb.mono hz10)
            have hz11 : H ≤ w11.heap.size := Nat.le_trans hz10 bb.size
            clear gg0 gg1 gg2 gg3 lgg tt0 ltt WR ob bb V10 O10 B10 T10 G10 RR10
            by_cases hz : dE = 0
            · subst hz
              have SY := SD.out rfl
              clear hwl
              by_cases hwz : we = 0
              · subst hwz
                obtain ⟨y1, y2, y3⟩ := SY.wrt hwe
                rw [hwb] at y1 y2 y3
                obtain ⟨y4, y5, y6⟩ := y3 s SM.out TL.out
                have Y6 : Hid (Tel M ((J' ++ [y]).map (snZ Z) ++ [⟨xt, xm, preE xA xn⟩]) (accS s wb).L) := y6
                have AC : Hid (Calls Tryz.prog 24 #[.pointer (some ⟨S, 0, none⟩), .slice wo wl wc] w11 fun e w'' => e = .returned (.tuple #[.int .i64 xt, .int .i64 0]) ∧ ∃ v' rs', StoV w'' H S H v' rs' (accS s wb) ∧ Chs H S H v v' w11 w'') := by
                  have := st_accept w11 H S H v rs s V11.out (by have := V11.out.lens; omega) _ wb y1 (by omega) RB.out
                  rw [y4, y5] at this; exact this
                have N6 : Hid ((accS s wb).N.getD 0 0 = (((J' ++ [y]).length + 1 : Nat) : Int)) := by
                  show (incN s.N (tkE s wb)).getD 0 0 = _
                  rw [y4, inc_zero V11.out.num (by rw [CN.out]; omega), CN.out]; rfl
                clear y1 y2 y3 y4 y5 y6 SY hwe hwb
                go_wp2_with fail
                refine AC.out.mono ?_; rintro e w12 ⟨rfl, v', rs', sv, ch⟩
                have V12 : Hid (StoV w12 H S H v' rs' (accS s wb)) := sv
                have O12 : Hid (OwnS w12 H (.slice (some ⟨gq, 0, none⟩) (j1 + 1) tc) ((J' ++ [y]).map (triZ Z))) := own_chs (by decide) O11.out V11.out OF.out ch
                have T12 := T11.chs ch NS.out.1 NS.out.2.1 NS.out.2.2
                have B12 : Hid (Below H w1 w12) := B11.out.trans ch.below
                have hz12 : H ≤ w12.heap.size := Nat.le_trans hz11 ch.below.size
                clear AC sv ch V11 O11 B11 T11 RB
                have tt0 := T12.cell 0 _ rfl
                have tt1 := T12.cell 1 _ rfl
                have tt2 := T12.cell 2 _ rfl
                have ltt := T12.lt
                obtain ⟨W6, hW6⟩ : ∃ W6, w12.alloc (.cells #[.int .i64 xt, .int .i64 xm, .slice xo xn xc] 24) = W6 := ⟨_, rfl⟩
                obtain ⟨x1, x2, x3, x4⟩ := boxA hW6
                have V6 : Hid (StoV W6 H S H v' rs' (accS s wb)) := V12.out.below x2
                have O6 : Hid (OwnS W6 H (.slice (some ⟨gq, 0, none⟩) (j1 + 1) tc) ((J' ++ [y]).map (triZ Z))) := O12.out.below x2
                have B6 : Hid (Below H w1 W6) := B12.out.trans (x2.mono hz12)
                have hz6 : H ≤ W6.heap.size := by omega
                obtain ⟨Vb, hVb⟩ : ∃ x, w12.heap.size = x := ⟨_, rfl⟩
                rw [hVb] at x1
                have X1 : Hid (Blk W6 Vb [.int .i64 xt, .int .i64 xm, .slice xo xn xc]) := x1
                have hlT : ((J' ++ [y]).map (triZ Z)).length ≤ 1000000 := by rw [List.length_map]; omega
                clear x1 x2 x3 x4 V12 O12 B12 T12
                go_wp2_with (at_builtin; refine growS_wp rfl _ _ rfl H _ ((J' ++ [y]).map (triZ Z)) rfl (by exact O6.out) Vb (xt, xm, .slice xo xn xc) rfl rfl (fun j u hu => X1.out.cell j u hu) (by exact hlT) (by exact hz6) ?_; intro va7 w7' o7 g7)
                obtain ⟨V7a, OF7a⟩ := V6.out.growN (by decide) (by decide) O6.out g7 OF.out
                have F7 : Hid (Few (accS s wb).L) := few_tk FW.out
                go_roundg (m - (k + 1))
                case measure => omega
                case rel => exact ⟨k + 1, _, _, _, (J' ++ [y]) ++ [k], _, by omega, by go_num, rfl, V7a, SM.out, F7.out, (by rw [List.map_append, List.map_singleton, HTR.out]; exact o7), OF7a, (by rw [List.map_append, List.map_singleton, HSN.out]; exact Y6.out), (fun i hi => by rcases List.mem_append.1 hi with hi | hi; exact JM.out i hi; rw [List.mem_singleton.1 hi]; exact hlt), (by rw [List.length_append]; exact N6.out), (by have := hJk; simp only [List.length_append, List.length_cons, List.length_nil] at this ⊢; omega), B6.out.trans g7.below⟩
              · have hq2 : (we != 0) = true := by simpa using hwz
                go_wp2_with fail
                go_roundg (m - (k + 1))
                case measure => omega
                case rel => exact ⟨k + 1, _, _, _, (J' ++ [y]), _, by omega, by go_num, rfl, V11.out, SM.out, FW.out, O11.out, OF.out, TL.out, JM.out, CN.out, by omega, B11.out⟩
            · have hq : (dE != 0) = true := by simpa using hz
              go_wp2_with fail
              go_roundg (m - (k + 1))
              case measure => omega
              case rel => exact ⟨k + 1, _, _, _, (J' ++ [y]), _, by omega, by go_num, rfl, V11.out, SM.out, FW.out, O11.out, OF.out, TL.out, JM.out, CN.out, by omega, B11.out⟩
    · obtain rfl : k = m := by omega
      have hlen := TL.out.len
      rw [List.length_map] at hlen
      obtain ⟨N, hN⟩ : ∃ N, J.length = N := ⟨_, rfl⟩
      have HN : Hid (J.length = N) := hN
      obtain ⟨ta, tc, hv, t1, t2, tf⟩ := O4.out.form
      rw [List.length_map, hN] at hv t1
      subst hv
      rw [hN] at hlen CN hJk
      obtain ⟨K, hK⟩ : ∃ K, s.L.length = K := ⟨_, rfl⟩
      have HK : Hid (s.L.length = K) := hK
      rw [hK] at hlen
      clear hN hK
      obtain ⟨d, hd⟩ : ∃ d, N - K = d := ⟨_, rfl⟩
      have hmin : min (N : Int) (M : Int) = (K : Int) := by omega
      have hmin2 : min (M : Int) (N : Int) = (K : Int) := by omega
      have hw1 : IntKind.i64.wrap ((N : Int) - (K : Int)) = (d : Int) := by rw [IntKind.wrap_i64]; omega
      have i1 : (d : Int) ≤ (N : Int) := by omega
      have i2 : (0 : Int) ≤ (d : Int) := by omega
      have i4 : N - d = K := by omega
      have HLEN : Hid (K = min N M) := hlen
      clear hlen
      go_wp2_with fail
      refine (st_len wr H S H v rs s V4.out).mono ?_; rintro e w5 ⟨rfl, rfl⟩
      rw [HK.out]
      go_wp2_with fail
      refine (HMO.out _).mono ?_; rintro e w6 ⟨rfl, rfl⟩
      go_wp2_with fail
      refine (st_taken w6 H S H v rs s V4.out).mono ?_; rintro e w7 ⟨rfl, rfl⟩
      rw [CN.out]
      go_wp2_with fail
      refine (st_len w7 H S H v rs s V4.out).mono ?_; rintro e w8 ⟨rfl, rfl⟩
      rw [HK.out]
      by_cases hN0 : N = 0
      · subst hN0
        have hK0 : K = 0 := by have := HLEN.out; omega
        subst hK0
        have hd0 : d = 0 := by omega
        subst hd0
        clear tf hmin hmin2 hw1 i1 i2 i4 hJk hd t1 t2
        rcases O4.out.2 with ⟨e, _⟩ | ⟨g, cap', cur, e, _⟩
        · injection e with e1 e2 e3
          subst e1 e3
          clear e2
          go_wp2_with fail
          go_loopg [157] 0 (fun g i wr => i = .int .i64 0 ∧ wr = w8)
          case atStart => exact ⟨rfl, rfl⟩
          case round =>
            obtain ⟨rfl, rfl⟩ := hrel
            go_wp2_with fail
            go_ret
            exact ⟨rfl, by rw [HH.out]; exact B4.out⟩
        · injection e with e1 e2 e3
          subst e1
          clear e2 e3
          go_wp2_with fail
          go_loopg [157] 0 (fun g i wr => i = .int .i64 0 ∧ wr = w8)
          case atStart => exact ⟨rfl, rfl⟩
          case round =>
            obtain ⟨rfl, rfl⟩ := hrel
            go_wp2_with fail
            go_ret
            exact ⟨rfl, by rw [HH.out]; exact B4.out⟩
      · obtain ⟨g, hta, hgl, _⟩ := tf (by intro h; have h' := congrArg List.length h; rw [List.length_map, HN.out] at h'; exact hN0 h')
        subst hta
        clear tf
        have i5 : ¬ tc = d := by have := HLEN.out; omega
        have i6 : d ≤ N := by omega
        go_wp2_with fail
        go_loopg [157] K (fun gh i wx => ∃ q : Nat, q + gh = K ∧ i = .int .i64 q ∧ StoV wx H S H v rs s ∧ OwnS wx H (.slice (some ⟨g, 0, none⟩) N tc) (J.map (triZ Z)) ∧ Below H w1 wx)
        case atStart => exact ⟨0, by omega, rfl, V4.out, O4.out, B4.out⟩
        case round =>
          clear V4 O4 B4 hz4
          obtain ⟨q, hq, rfl, hv, ho, hb⟩ := hrel
          have V4 : Hid (StoV wr H S H v rs s) := hv
          have O4 : Hid (OwnS wr H (.slice (some ⟨g, 0, none⟩) N tc) (J.map (triZ Z))) := ho
          have B4 : Hid (Below H w1 wr) := hb
          have hz4 : H ≤ wr.heap.size := by have := hb.size; have := HH.out; omega
          clear hv ho hb
          by_cases hqK : q < K
          · have hdq : d + q < (J.map (triZ Z)).length := by rw [List.length_map, HN.out]; omega
            have hdJ : d + q < J.length := by rw [HN.out]; omega
            obtain ⟨_, _, e, _, _, tf⟩ := O4.out.form
            obtain ⟨g', hta, _, hcs⟩ := tf (by intro h; rw [h] at hdq; simp at hdq)
            injection e with e1 e2 e3
            clear e2 e3
            rw [hta] at e1
            injection e1 with e1
            injection e1 with e1 _ _
            subst e1
            obtain ⟨p0, p1, p2⟩ := hcs (d + q) hdq
            have hye : (J.map (triZ Z))[d + q]'hdq = triZ Z (J[d + q]'hdJ) := by rw [List.getElem_map]
            rw [hye] at p0 p1 p2
            have hTA : (J.map (snZ Z))[d + q]? = some (atS s.L q) := by
              have := TL.out.at (i := q) (by rw [HK.out]; exact hqK)
              rw [List.length_map, HN.out, HK.out, hd] at this
              exact this
            rw [List.getElem?_map, List.getElem?_eq_getElem hdJ] at hTA
            have hsn : snZ Z (J[d + q]'hdJ) = atS s.L q := by simpa using hTA
            have hym := JM.out _ (List.getElem_mem hdJ)
            obtain ⟨y, hy⟩ : ∃ y, J[d + q]'hdJ = y := ⟨_, rfl⟩
            rw [hy] at p0 p1 p2 hsn hym
            obtain ⟨b, o, hao, hat⟩ := P3.out.resolve_left (by omega)
            clear hao
            obtain ⟨_, _, _, hre⟩ := hat y hym
            have AT : Hid (atS s.L q = ⟨Z.T y, Z.M y, preE (Z.A y) (Z.N y)⟩) := hsn.symm
            change wr.cell? _ = some (.int .i64 (Z.T y)) at p0
            change wr.cell? _ = some (.int .i64 (Z.M y)) at p1
            change wr.cell? _ = some (Z.U y) at p2
            obtain ⟨yt, hyt⟩ : ∃ q, Z.T y = q := ⟨_, rfl⟩
            obtain ⟨ym, hymm⟩ : ∃ q, Z.M y = q := ⟨_, rfl⟩
            obtain ⟨yu, hyu⟩ : ∃ q, Z.U y = q := ⟨_, rfl⟩
            obtain ⟨yn, hyn⟩ : ∃ q, Z.N y = q := ⟨_, rfl⟩
            obtain ⟨yA, hyA⟩ : ∃ q, Z.A y = q := ⟨_, rfl⟩
            rw [hyt] at p0 AT
            rw [hymm] at p1 AT
            rw [hyu] at p2 hre
            rw [hyn] at hre AT
            rw [hyA] at hre AT
            have REY : Hid (RdE w1 yu yn yA) := hre
            obtain ⟨yo, yc, hu, -⟩ := REY.out
            subst hu
            have es : (d + q) * 3 = d * 3 + q * 3 := by omega
            rw [es] at p0 p1 p2
            have ATC : Hid (∀ w', StoV w' H S H v rs s → Calls Tryz.prog 29 #[.pointer (some ⟨S, 0, none⟩), .int .i64 (q : Nat)] w' fun e w'' => ∃ u, e = .returned (.tuple #[snV yt ym u, .int .i64 0]) ∧ OwnE w'' w'.heap.size u (preE yA yn) ∧ Below w'.heap.size w' w'') := fun w' h => by
              have hf : (atS s.L q).E.length ≤ 1000000 := by have := FW.out _ (atS_mem (L := s.L) (i := q) (by rw [HK.out]; exact hqK)); omega
              have := st_at w' H S H v rs s h q (by rw [HK.out]; exact hqK) hf
              rw [AT.out] at this
              simp only [pre_atE] at this
              exact this
            have i7 : (0 : Int) ≤ (q : Int) := by omega
            have i8 : (q : Int) < (K : Int) := by omega
            clear hcs tf hye hTA hsn hym hy hat hre hyt hymm hyu hyn hyA es
            go_upto_region 28 with fail
            generalize hW : wr.alloc (.cells #[.int .i64 yt, .int .i64 ym, .slice yo yn yc] 24) = W5
            obtain ⟨X5, bb, -⟩ := boxed hW
            obtain ⟨Xb, hXb⟩ : ∃ x, wr.heap.size = x := ⟨_, rfl⟩
            rw [hXb] at X5
            rw [hXb]
            have V5 : Hid (StoV W5 H S H v rs s) := V4.out.below bb
            have O5 : Hid (OwnS W5 H (.slice (some ⟨g, 0, none⟩) N tc) (J.map (triZ Z))) := O4.out.below bb
            have B5 : Hid (Below H w1 W5) := B4.out.trans (bb.mono hz4)
            have hz5 : H ≤ W5.heap.size := Nat.le_trans hz4 bb.size
            clear hW hXb bb V4 O4 B4 hz4 p0 p1 p2
            go_wp2_with fail
            refine (ATC.out W5 V5.out).mono ?_; rintro e w9 ⟨u9, rfl, o9, bb⟩
            have R9 : Hid (RdE w9 u9 yn yA) := rdE_pre o9
            obtain ⟨uo, uc, hu9⟩ := o9.form
            rw [preE_len] at hu9
            subst hu9
            have X9 := X5.below bb X5.lt
            have V9 : Hid (StoV w9 H S H v rs s) := V5.out.below bb
            have O9 : Hid (OwnS w9 H (.slice (some ⟨g, 0, none⟩) N tc) (J.map (triZ Z))) := O5.out.below bb
            have B9 : Hid (Below H w1 w9) := B5.out.trans (bb.mono hz5)
            have hz9 : H ≤ w9.heap.size := Nat.le_trans hz5 bb.size
            clear o9 bb V5 O5 B5 hz5 X5 ATC
            go_upto_region 29 with fail
            generalize hW : w9.alloc (.cells #[.int .i64 yt, .int .i64 ym, .slice uo yn uc] 24) = W10
            obtain ⟨U10, bb, -⟩ := boxed hW
            obtain ⟨Ub, hUb⟩ : ∃ x, w9.heap.size = x := ⟨_, rfl⟩
            rw [hUb] at U10
            rw [hUb]
            have X10 := X9.below bb X9.lt
            have R10 : Hid (RdE W10 (.slice uo yn uc) yn yA) := R9.out.below bb
            have V10 : Hid (StoV W10 H S H v rs s) := V9.out.below bb
            have O10 : Hid (OwnS W10 H (.slice (some ⟨g, 0, none⟩) N tc) (J.map (triZ Z))) := O9.out.below bb
            have B10 : Hid (Below H w1 W10) := B9.out.trans (bb.mono hz9)
            have hz10 : H ≤ W10.heap.size := Nat.le_trans hz9 bb.size
            clear hW hUb bb V9 O9 B9 hz9 X9 R9
            have x0 := X10.cell 0 _ rfl
            have x1 := X10.cell 1 _ rfl
            have x2 := X10.cell 2 _ rfl
            have lx := X10.lt
            have u0 := U10.cell 0 _ rfl
            have u1 := U10.cell 1 _ rfl
            have u2 := U10.cell 2 _ rfl
            have lu := U10.lt
            go_wp2_with fail
            refine (sn_same W10 yt ym _ _ yn yA (REY.out.below (by rw [HH.out]; exact B10.out)) R10.out).mono ?_; rintro e w11 ⟨rfl, bb⟩
            have V11 : Hid (StoV w11 H S H v rs s) := V10.out.below bb
            have O11 : Hid (OwnS w11 H (.slice (some ⟨g, 0, none⟩) N tc) (J.map (triZ Z))) := O10.out.below bb
            have B11 : Hid (Below H w1 w11) := B10.out.trans (bb.mono hz10)
            clear bb V10 O10 B10 x0 x1 x2 lx u0 u1 u2 lu X10 U10 R10
            go_wp2_with fail
            go_roundg (K - (q + 1))
            case measure => omega
            case rel => exact ⟨q + 1, by omega, by go_num, V11.out, O11.out, B11.out⟩
          · obtain rfl : q = K := by omega
            go_wp2_with fail
            go_ret
            exact ⟨rfl, by rw [HH.out]; exact B4.out⟩

set_option maxRecDepth 100000 in
theorem lifted (os : Os) (started : os.Started) (H : Type) (enc : TypeId × Value → H) :
    ReturnsInHanded {} Tryz.checked os 6 .any (Rows.storeTellsSpec.pre6 enc Tryz.prog Tryz.f6 Rows.storeTellsRow.domain false) (Rows.storeTellsSpec.post enc Tryz.prog Tryz.f6 false true false false) := by
  refine returnsInHanded_of_change (C := Tryz.checked) own started (by kernel_rfl) Tryz.func6
    (ChangeSpec.witness6 (enc := enc) (C := Tryz.checked) false ⟨#[], #[.int .i64 0, .slice none 0 0, .slice none 0 0], []⟩ 8 (by kernel_rfl) (by kernel_rfl) (by kernel_rfl) (by kernel_rfl)) ?_
  intro W base args ds gs before hval0 hW hcnd _
  have hval : ∀ (j : Nat) t v, Tryz.f6.params[j]? = some t → args[j]? = some v → Value.okWide Tryz.prog W .any base t v := hval0
  have hW' := hW
  obtain ⟨p, q, hA0, hV, rfl, hfz, hnd⟩ := hW
  have hA : DataW.TrodAll enc Tryz.prog W 0 (fun _ => true) true Tryz.f6.params.toList args.toList ds p := hA0
  rw [Tryz.params6] at hA hval
  obtain ⟨v0, vs0, d0, ds0, p0, q0, hargs, rfl, rfl, h0, r0⟩ := trodAll_cons hA
  obtain ⟨v1, vs1, d1, ds1, p1, q1, rfl, rfl, rfl, h1, r1⟩ := trodAll_cons r0
  obtain ⟨v2, vs2, d2, ds2, p2, q2, rfl, rfl, rfl, h2, r2⟩ := trodAll_cons r1
  obtain ⟨rfl, rfl, rfl⟩ := trodAll_nil r2
  obtain rfl : args = #[v0, v1, v2] := by cases args; simp_all
  obtain ⟨rfl, rfl⟩ := trodVars_none hV
  have hlt := hW'.lt
  have k0 := h0
  obtain ⟨a0, rfl, rfl, rfl, w0⟩ := open_int Tryz.underlying3 (hval 0 3 v0 rfl rfl) h0
  have k1 := h1
  obtain ⟨n1, Z1, b1, e1⟩ := open_snaps (hval 1 61 v1 rfl rfl) h1
  have k2 := h2
  obtain ⟨n2, F2, e2⟩ := open_bools' (hval 2 72 v2 rfl rfl) h2
  clear hA0 hval0
  refine (walk W a0 w0 v1 n1 Z1 b1 e1 v2 n2 F2 e2).mono fun e W' ⟨he, hg⟩ => ?_
  subst he
  exact ⟨_, rfl, post_of_below hW' (fun _ _ _ => (trodAll_cons_mk (shut_bool Tryz.underlying4 _) trodAll_mk0)) (trodAll_cons_mk (Below.trod laidOut (by kernel_rfl) (of_decide_eq_true (by kernel_rfl)) k0 hg (fun x hx => by first | exact absurd hx (by simp) | exact hlt x (by simp [hx]))) (trodAll_cons_mk (Below.trod laidOut (by kernel_rfl) (of_decide_eq_true (by kernel_rfl)) k1 hg (fun x hx => by first | exact absurd hx (by simp) | exact hlt x (by simp [hx]))) (trodAll_cons_mk (Below.trod laidOut (by kernel_rfl) (of_decide_eq_true (by kernel_rfl)) k2 hg (fun x hx => by first | exact absurd hx (by simp) | exact hlt x (by simp [hx]))) trodAll_mk0))) rfl hg⟩

theorem over : Rows.storeTellsRow.holds Tryz.pinned (OpenSpec.ofChange Rows.storeTellsSpec) :=
  OpenClaim.holds_of_wide 6 Tryz.f6 rfl rfl rfl rfl rfl rfl rfl ⟨rfl, rfl, rfl, rfl, rfl⟩ rfl rfl rfl rfl rfl (by kernel_rfl) Tryz.func6 (by kernel_rfl)
    (of_decide_eq_true (by kernel_rfl)) (by unfold Func.isWrapper; first | (rw [if_pos (by decide +kernel)]; kernel_rfl) | (rw [if_neg (by decide +kernel)]; exact ⟨rfl, rfl⟩))
    (fun os started H enc _ => lifted os started H enc)
end StoreTellsL

theorem storeTells_proved : Rows.StoreTellsSaid := StoreTellsL.over
#print axioms storeTells_proved
end Go.Proofs.YtokegpajjicehaaGreat
