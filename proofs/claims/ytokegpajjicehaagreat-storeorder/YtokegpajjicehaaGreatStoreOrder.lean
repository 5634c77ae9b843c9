/-
  Proved: whatever comes, ticks and times rise from one kept snapshot to the next one, all of them may be, no more are kept than may be; what is refused changes nothing but a count (the law StoreOrder answers true at every input).
  Conditions: none.
-/
import Derived.Test.YtokegpajjicehaaGreatRows
import Derived.Test.YtokegpajjicehaaGreatP36
namespace Go.Proofs.YtokegpajjicehaaGreat
open Go.ChangeShapes Go.WideShapes Go.ChangeAt Go.RowKit
set_option linter.unusedVariables false

namespace StoreOrderL
theorem own : ownKnob Tryz.prog.godebug = none := by kernel_rfl

set_option maxRecDepth 20000 in
set_option maxHeartbeats 16000000 in
theorem walk (w : World) (n : Int) (hn : (Lit.int .i64 n).wf = true) (va : Value) (m : Nat) (L : Nat → List Int) (hb : ∀ i, i < m → Bytes (L i)) (hl : RdBB w va m L) (hz : ∀ i, i < m → (L i).length ≤ 140737488351232) :
    Calls Tryz.prog 5 #[.int .i64 n, va] w fun e w' => e = .returned (.bool true) ∧ Below w.heap.size w w' := by
  have HL : Hid (RdBB w va m L) := hl
  have HBY : Hid (∀ i, i < m → Bytes (L i)) := hb
  have HNO : Hid (greatB L m = false → m ≤ 60 ∧ ∀ i, i < m → (L i).length ≤ 20000) := great_no hz
  obtain ⟨ao, cap, rfl, h1, h2, h3⟩ := hl
  have P3 : Hid _ := h3
  clear hn hb h3 hz
  obtain ⟨H, hH⟩ : ∃ H, w.heap.size = H := ⟨_, rfl⟩
  have HH : Hid (w.heap.size = H) := hH
  obtain ⟨hmo1, hmo2⟩ := most_bd n
  obtain ⟨M, hMe⟩ : ∃ M, mostN n = M := ⟨_, rfl⟩
  have HMO : Hid (∀ w', Calls Tryz.prog 20 #[.int .i64 n] w' fun e w'' => e = .returned (.int .i64 (M : Nat)) ∧ w'' = w') := fun w' => by have := most_any w' n; rw [hMe] at this; exact this
  rw [hMe] at hmo1 hmo2
  clear hMe
  go_enter Tryz.func5, Tryz.ntmps5
  go_wp2_with fail
  refine (HMO.out _).mono ?_; rintro e w1 ⟨rfl, rfl⟩
  go_wp2_with fail
  refine (st_new _ M hmo1 hmo2).mono ?_; rintro e w2 ⟨rfl, s2, b2⟩
  rw [hH] at s2 b2
  rw [hH]
  obtain ⟨S, hS⟩ : ∃ S, H + 1 = S := ⟨_, rfl⟩
  rw [hS] at s2 ⊢
  have V2 : Hid (StoV w2 H S H (.slice none 0 0) (emptyR M) (emptyS M)) := s2
  have B2 : Hid (Below H w1 w2) := b2
  have hz2 : H ≤ w2.heap.size := by have := b2.size; omega
  clear s2 b2 hH hS
  go_wp2_with fail
  refine (st_alive _).mono ?_; rintro e w3 ⟨rfl, b3⟩
  have V3 : Hid (StoV w3 H S H (.slice none 0 0) (emptyR M) (emptyS M)) := V2.out.below b3
  have B3 : Hid (Below H w1 w3) := B2.out.trans (b3.mono hz2)
  have hz3 : H ≤ w3.heap.size := Nat.le_trans hz2 b3.size
  clear V2 B2 hz2 b3
  have HRB : Hid (RdBB w3 (.slice ao m cap) m L) := by
    obtain ⟨ao', cap', e, q1, q2, q3⟩ := HL.out
    refine ⟨ao', cap', e, q1, q2, ?_⟩
    rcases q3 with q | ⟨b, o, q, hat⟩
    · exact Or.inl q
    · by_cases h0 : m = 0
      · exact Or.inl h0
      · refine Or.inr ⟨b, o, q, fun i hi => ?_⟩
        obtain ⟨u, c0, hr⟩ := hat i hi
        have hb0 : b < H := by have := World.block_lt_of_cell? w1 _ c0; have := HH.out; simp only at *; omega
        exact ⟨u, (B3.out.cell (p := ⟨b, o + i, none⟩) hb0).trans c0, hr.below (by rw [HH.out]; exact B3.out)⟩
  go_wp2_with fail
  refine (st_great _ _ m L HRB.out).mono ?_; rintro e w4 ⟨rfl, rfl⟩
  cases hgr : greatB L m with
  | true =>
    go_wp2_with fail
    refine (st_alive _).mono ?_; rintro e w5 ⟨rfl, b5⟩
    have B5 : Hid (Below H w1 w5) := B3.out.trans (b5.mono hz3)
    clear b5
    go_wp2_with fail
    go_ret
    exact ⟨rfl, by rw [HH.out]; exact B5.out⟩
  | false =>
  obtain ⟨hm60, hlen⟩ := HNO.out hgr
  have HLN : Hid (∀ i, i < m → (L i).length ≤ 20000) := hlen
  clear hlen hgr HRB HNO
  go_wp2_with fail
  go_loopg [43] m (fun g i wr => ∃ (k : Nat) (v : Value) (rs : Rs) (s : Sto), k + g = m ∧ i = .int .i64 k ∧ StoV wr H S H v rs s ∧ s.M = M ∧ Few s.L ∧ Gd s.L ∧ Below H w1 wr)
  case atStart => exact ⟨0, _, _, _, by omega, rfl, V3.out, rfl, (fun y hy => by cases hy), Gd.nil, B3.out⟩
  case round =>
    clear V3 B3 hz3
    obtain ⟨k, v, rs, s, hk, rfl, hsv, hsm, hfew, hgd, hbl⟩ := hrel
    have V4 : Hid (StoV wr H S H v rs s) := hsv
    have SM : Hid (s.M = M) := hsm
    have FW : Hid (Few s.L) := hfew
    have GD : Hid (Gd s.L) := hgd
    have B4 : Hid (Below H w1 wr) := hbl
    have hz4 : H ≤ wr.heap.size := by have := hbl.size; have := HH.out; omega
    clear hsv hsm hfew hgd hbl
    by_cases hlt : k < m
    · obtain ⟨b, o, rfl, hat⟩ := P3.out.resolve_left (by omega)
      obtain ⟨u, c0, hr⟩ := hat k hlt
      have hb0 : b < H := by have := World.block_lt_of_cell? w1 _ c0; have := HH.out; simp only at *; omega
      have e0 := (B4.out.cell (p := ⟨b, o + k, none⟩) hb0).trans c0
      have RU : Hid (Rd w1 u (L k)) := hr
      have hby := HBY.out k hlt
      have hln := HLN.out k hlt
      obtain ⟨l, hll⟩ : ∃ l, L k = l := ⟨_, rfl⟩
      rw [hll] at RU hby hln
      have BY : Hid (Bytes l) := hby
      obtain ⟨ao2, cp2, rfl, -⟩ := RU.out
      obtain ⟨q0, hq⟩ : ∃ q, l.length = q := ⟨_, rfl⟩
      rw [hq] at e0 RU hln
      have LN : Hid (l.length ≤ 20000) := by show l.length ≤ 20000; rw [hq]; exact hln
      have AC : Hid (∀ w' v rs s, StoV w' H S H v rs s → Below H w1 w' → Calls Tryz.prog 24 #[.pointer (some ⟨S, 0, none⟩), .slice ao2 q0 cp2] w' fun e w'' => e = .returned (.tuple #[.int .i64 (tkT s l), .int .i64 (tkE s l)]) ∧ ∃ v' rs', StoV w'' H S H v' rs' (accS s l) ∧ Chs H S H v v' w' w'') := fun w' v rs s h hb => st_accept w' H S H v rs s h (by have := h.lens; omega) _ l BY.out (by have := LN.out; omega) (RU.out.below (by rw [HH.out]; exact hb))
      clear c0 hr hat hby hln hll hq
      obtain ⟨K, hK⟩ : ∃ K, s.L.length = K := ⟨_, rfl⟩
      have HK : Hid (s.L.length = K) := hK
      have hKM : K ≤ M := by have := V4.out.lens.1; have := SM.out; omega
      clear hK
      go_wp2_with fail
      refine (st_len wr H S H v rs s V4.out).mono ?_; rintro e w5 ⟨rfl, rfl⟩
      rw [HK.out]
      go_wp2_with fail
      go_loopg [9, 49] K (fun g a i wx => ∃ (q : Nat) (va : Value) (T : List Tri), q + g = K ∧ i = .int .i64 q ∧ va = a ∧ T.length = q ∧ StoV wx H S H v rs s ∧ Was wx H S s.L va T ∧ Below H w1 wx)
      case atStart => exact ⟨0, _, [], by omega, rfl, rfl, rfl, V4.out, Was.nil _ _ _ _, B4.out⟩
      case round =>
        clear V4 B4 hz4 e0
        obtain ⟨q, va, T, hq, rfl, rfl, hTq, hv, hwa, hb⟩ := hrel
        have HT : Hid (T.length = q) := hTq
        have V4 : Hid (StoV wr H S H v rs s) := hv
        have WA4 : Hid (Was wr H S s.L va T) := hwa
        have B4 : Hid (Below H w1 wr) := hb
        have hz4 : H ≤ wr.heap.size := by have := hb.size; have := HH.out; omega
        clear hv hwa hb hTq
        by_cases hqK : q < K
        · obtain ⟨xt, hxt⟩ : ∃ x, (atS s.L q).t = x := ⟨_, rfl⟩
          obtain ⟨xm, hxm⟩ : ∃ x, (atS s.L q).m = x := ⟨_, rfl⟩
          obtain ⟨xE, hxE⟩ : ∃ x, (atS s.L q).E = x := ⟨_, rfl⟩
          have HX : Hid ((atS s.L q).t = xt ∧ (atS s.L q).m = xm ∧ (atS s.L q).E = xE) := ⟨hxt, hxm, hxE⟩
          have hxl : xE.length ≤ 64 := by have := FW.out _ (atS_mem (L := s.L) (i := q) (by rw [HK.out]; assumption)); rw [hxE] at this; exact this
          have AT : Hid (Calls Tryz.prog 29 #[.pointer (some ⟨S, 0, none⟩), .int .i64 (q : Nat)] wr fun e w'' => ∃ u, e = .returned (.tuple #[snV xt xm u, .int .i64 0]) ∧ OwnE w'' wr.heap.size u xE ∧ Below wr.heap.size wr w'') := by
            have := st_at wr H S H v rs s V4.out q (by rw [HK.out]; assumption) (by rw [hxE]; omega)
            rw [pre_atE, hxt, hxm, hxE] at this; exact this
          clear hxt hxm hxE
          have hSH : H < wr.heap.size ∧ S < wr.heap.size := ⟨V4.out.rng.blk.lt, V4.out.blk.lt⟩
          go_wp2_with fail
          refine AT.out.mono ?_; rintro e w6 ⟨u6, rfl, o6, bb⟩
          have OFU : Hid (Offs S H u6) := offs_new o6 hSH.2 hSH.1
          have O6 : Hid (OwnE w6 H u6 xE) := o6.mono hz4
          obtain ⟨oe, ce, hu6⟩ := o6.form
          obtain ⟨nE, hnE⟩ : ∃ n, xE.length = n := ⟨_, rfl⟩
          rw [hnE] at hu6
          subst hu6
          clear o6 hSH AT hnE hxl
          have V6 : Hid (StoV w6 H S H v rs s) := V4.out.below bb
          have WA6 : Hid (Was w6 H S s.L va T) := WA4.out.below bb
          have B6 : Hid (Below H w1 w6) := B4.out.trans ((bb).mono hz4)
          have hz6 : H ≤ w6.heap.size := Nat.le_trans hz4 (bb).size
          clear V4 B4 hz4 WA4
          clear bb
          go_upto_region 12 with fail
          generalize hW : w6.alloc (.cells #[.int .i64 xt, .int .i64 xm, .slice oe nE ce] 24) = w7
          obtain ⟨X7, bb, -⟩ := boxed hW
          obtain ⟨Xb, hXb⟩ : ∃ x, w6.heap.size = x := ⟨_, rfl⟩
          rw [hXb] at X7
          rw [hXb]
          have O7 : Hid (OwnE w7 H (.slice oe nE ce) xE) := O6.out.below bb
          clear O6
          have V7 : Hid (StoV w7 H S H v rs s) := V6.out.below bb
          have WA7 : Hid (Was w7 H S s.L va T) := WA6.out.below bb
          have B7 : Hid (Below H w1 w7) := B6.out.trans ((bb).mono hz6)
          have hz7 : H ≤ w7.heap.size := Nat.le_trans hz6 (bb).size
          clear V6 B6 hz6 WA6
          clear hW hXb bb
          have x0 := X7.cell 0 _ rfl
          have x1 := X7.cell 1 _ rfl
          have x2 := X7.cell 2 _ rfl
          have lx := X7.lt
          obtain ⟨W8, hW8⟩ : ∃ W8, w7.alloc (.cells #[.int .i64 xt, .int .i64 xm, .slice oe nE ce] 24) = W8 := ⟨_, rfl⟩
          obtain ⟨y1, bb, y3, y4⟩ := boxA hW8
          have O8 : Hid (OwnE W8 H (.slice oe nE ce) xE) := O7.out.below bb
          have hz8' : H ≤ W8.heap.size := by omega
          obtain ⟨Vb, hVb⟩ : ∃ x, w7.heap.size = x := ⟨_, rfl⟩
          rw [hVb] at y1
          have Y8 : Hid (Blk W8 Vb [.int .i64 xt, .int .i64 xm, .slice oe nE ce]) := y1
          clear y1 y3 y4 O7
          have V8 : Hid (StoV W8 H S H v rs s) := V7.out.below bb
          have WA8 : Hid (Was W8 H S s.L va T) := WA7.out.below bb
          have B8 : Hid (Below H w1 W8) := B7.out.trans ((bb).mono hz7)
          have hz8 : H ≤ W8.heap.size := Nat.le_trans hz7 (bb).size
          clear V7 B7 hz7 WA7
          clear hz8 bb
          have hlT : T.length ≤ 1000000 := by have := HT.out; omega
          go_wp2_with (at_builtin; refine growS_wp rfl _ _ rfl H _ T rfl (by exact WA8.out.row) Vb (xt, xm, .slice oe nE ce) rfl rfl (fun j u hu => Y8.out.cell j u hu) (by exact hlT) (by exact hz8') ?_; intro va9 w9 o9 g9)
          have hsz8 : H < W8.heap.size ∧ S < W8.heap.size := ⟨V8.out.rng.blk.lt, V8.out.blk.lt⟩
          obtain ⟨V9, OF9⟩ := V8.out.growN (by decide) (by decide) WA8.out.row g9 WA8.out.off
          have WA9 : Was w9 H S s.L va9 (T ++ [(xt, xm, .slice oe nE ce)]) := WA8.out.grow hsz8.2 hsz8.1 (xt, xm, .slice oe nE ce) (by rw [HT.out, HK.out]; exact hqK) (by rw [HT.out]; exact HX.out.1.symm) (by rw [HT.out]; exact HX.out.2.1.symm) (by rw [HT.out, HX.out.2.2]; exact O8.out) OFU.out o9 g9
          have hTl : (T ++ [((xt, xm, .slice oe nE ce) : Tri)]).length = q + 1 := by rw [List.length_append, HT.out]; rfl
          go_roundg (K - (q + 1))
          case measure => omega
          case rel => exact ⟨q + 1, _, _, by omega, by go_num, rfl, hTl, V9, WA9, B8.out.trans g9.below⟩
        · obtain rfl : K = q := by omega
          obtain ⟨ta, tc, hv, t1, t2, tf⟩ := WA4.out.row.form
          rw [HT.out] at hv t1
          subst hv
          clear tf
          go_wp2_with fail
          refine (AC.out wr v rs s V4.out B4.out).mono ?_; rintro e w5 ⟨rfl, v5, rs5, sv5, c5⟩
          have WA5 : Hid (Was w5 H S s.L (.slice ta K tc) T) := WA4.out.chs V4.out c5
          have B5 : Hid (Below H w1 w5) := B4.out.trans c5.below
          have hz5 : H ≤ w5.heap.size := Nat.le_trans hz4 c5.below.size
          have GD5 : Hid (Gd (accS s l).L) := gd_tk GD.out
          have F5 : Hid (Few (accS s l).L) := few_tk FW.out
          have HFZ : Hid (tkE s l ≠ 0 → (accS s l).L = s.L) := fun h => if_neg h
          obtain ⟨F, hF⟩ : ∃ F, tkE s l = F := ⟨_, rfl⟩
          rw [hF] at HFZ
          rw [hF]
          obtain ⟨TT, hTT⟩ : ∃ t, tkT s l = t := ⟨_, rfl⟩
          rw [hTT]
          obtain ⟨s5, hs5⟩ : ∃ s5, accS s l = s5 := ⟨_, rfl⟩
          have SM5 : Hid (s5.M = M) := by show s5.M = M; rw [← hs5]; exact SM.out
          rw [hs5] at sv5 GD5 F5 HFZ
          have V5 : Hid (StoV w5 H S H v5 rs5 s5) := sv5
          obtain ⟨K5, hK5⟩ : ∃ K, s5.L.length = K := ⟨_, rfl⟩
          have HK5 : Hid (s5.L.length = K5) := hK5
          have hKM5 : K5 ≤ M := by have := V5.out.lens.1; have := SM5.out; omega
          have d5 : decide ((M : Int) < (K5 : Int)) = false := by simp; omega
          clear hF hTT hs5 hK5 sv5 c5 V4 WA4 B4 hz4 GD FW SM AC
          by_cases hf : F = 0
          · subst hf
            clear HFZ
            go_wp2_with fail
            refine (st_len w5 H S H v5 rs5 s5 V5.out).mono ?_; rintro e w6 ⟨rfl, rfl⟩
            rw [HK5.out]
            go_wp2_with fail
            refine (HMO.out _).mono ?_; rintro e w7 ⟨rfl, rfl⟩
            go_wp2_with fail
            refine (st_len w7 H S H v5 rs5 s5 V5.out).mono ?_; rintro e w8 ⟨rfl, rfl⟩
            rw [HK5.out]
            go_wp2_with fail
            go_loopg [87] K5 (fun gh i wx => ∃ p : Nat, p + gh = K5 ∧ i = .int .i64 p ∧ StoV wx H S H v5 rs5 s5 ∧ Was wx H S s.L (.slice ta K tc) T ∧ Below H w1 wx)
            case atStart => exact ⟨0, by omega, rfl, V5.out, WA5.out, B5.out⟩
            case round =>
              clear V5 WA5 B5 hz5
              obtain ⟨p, hp, rfl, hv, hwa, hb⟩ := hrel
              have V5 : Hid (StoV wr H S H v5 rs5 s5) := hv
              have WA5 : Hid (Was wr H S s.L (.slice ta K tc) T) := hwa
              have B5 : Hid (Below H w1 wr) := hb
              have hz5 : H ≤ wr.heap.size := by have := hb.size; have := HH.out; omega
              clear hv hwa hb
              by_cases hpK : p < K5
              · obtain ⟨xt, hxt⟩ : ∃ x, (atS s5.L p).t = x := ⟨_, rfl⟩
                obtain ⟨xm, hxm⟩ : ∃ x, (atS s5.L p).m = x := ⟨_, rfl⟩
                obtain ⟨xE, hxE⟩ : ∃ x, (atS s5.L p).E = x := ⟨_, rfl⟩
                have HX : Hid ((atS s5.L p).t = xt ∧ (atS s5.L p).m = xm ∧ (atS s5.L p).E = xE) := ⟨hxt, hxm, hxE⟩
                have hxl : xE.length ≤ 64 := by have := F5.out _ (atS_mem (L := s5.L) (i := p) (by rw [HK5.out]; assumption)); rw [hxE] at this; exact this
                have AT : Hid (Calls Tryz.prog 29 #[.pointer (some ⟨S, 0, none⟩), .int .i64 (p : Nat)] wr fun e w'' => ∃ u, e = .returned (.tuple #[snV xt xm u, .int .i64 0]) ∧ OwnE w'' wr.heap.size u xE ∧ Below wr.heap.size wr w'') := by
                  have := st_at wr H S H v5 rs5 s5 V5.out p (by rw [HK5.out]; assumption) (by rw [hxE]; omega)
                  rw [pre_atE, hxt, hxm, hxE] at this; exact this
                clear hxt hxm hxE
                have HC : Hid (snE xt xm xE = 0) := by
                  have := GD5.out.good _ (atS_mem (L := s5.L) (i := p) (by rw [HK5.out]; exact hpK))
                  rw [HX.out.1, HX.out.2.1, HX.out.2.2] at this; exact this
                go_wp2_with fail
                refine AT.out.mono ?_; rintro e w6 ⟨u6, rfl, o6, bb⟩
                obtain ⟨oe, ce, rfl⟩ := o6.form
                obtain ⟨nE, hnE⟩ : ∃ n, xE.length = n := ⟨_, rfl⟩
                have RE6 : Hid (RdE w6 (.slice oe nE ce) nE (atE xE)) := by have := o6.atE; rw [hnE] at this; exact this
                have HXE : Hid (preE (atE xE) nE = xE) := by rw [← hnE]; exact pre_atE xE
                have HNE : Hid (xE.length = nE) := hnE
                rw [hnE]
                clear o6 AT hnE hxl
                have V6 : Hid (StoV w6 H S H v5 rs5 s5) := V5.out.below bb
                have WA6 : Hid (Was w6 H S s.L (.slice ta K tc) T) := WA5.out.below bb
                have B6 : Hid (Below H w1 w6) := B5.out.trans ((bb).mono hz5)
                have hz6 : H ≤ w6.heap.size := Nat.le_trans hz5 (bb).size
                clear V5 B5 hz5 WA5
                clear bb
                go_upto_region 21 with fail
                generalize hW : w6.alloc (.cells #[.int .i64 xt, .int .i64 xm, .slice oe nE ce] 24) = w7
                obtain ⟨X7, bb, -⟩ := boxed hW
                obtain ⟨Xb, hXb⟩ : ∃ x, w6.heap.size = x := ⟨_, rfl⟩
                rw [hXb] at X7
                rw [hXb]
                have RE7 : Hid (RdE w7 (.slice oe nE ce) nE (atE xE)) := RE6.out.below bb
                clear RE6
                have V7 : Hid (StoV w7 H S H v5 rs5 s5) := V6.out.below bb
                have WA7 : Hid (Was w7 H S s.L (.slice ta K tc) T) := WA6.out.below bb
                have B7 : Hid (Below H w1 w7) := B6.out.trans ((bb).mono hz6)
                have hz7 : H ≤ w7.heap.size := Nat.le_trans hz6 (bb).size
                clear V6 B6 hz6 WA6
                clear hW hXb bb
                have x0 := X7.cell 0 _ rfl
                have x1 := X7.cell 1 _ rfl
                have x2 := X7.cell 2 _ rfl
                have lx := X7.lt
                have CK : Hid (∀ w', RdE w' (.slice oe nE ce) nE (atE xE) → Calls Tryz.prog 17 #[.agg #[.int .i64 xt, .int .i64 xm, .slice oe nE ce]] w' fun e w'' => e = .returned (.int .i64 0) ∧ Below w'.heap.size w' w'') := fun w' h => by
                  have := sn_check w' xt xm _ nE (atE xE) h
                  rw [HXE.out, HC.out] at this; exact this
                have hp1 : (p : Int) < (K5 : Int) := by omega
                have hp2 : (0 : Int) ≤ (p : Int) := by omega
                have REd : Hid (RdE w7.drew (.slice oe nE ce) nE (atE xE)) := RE7.out
                have XD : Blk w7.drew Xb [.int .i64 xt, .int .i64 xm, .slice oe nE ce] := X7.drew
                have VD : Hid (StoV w7.drew H S H v5 rs5 s5) := V7.out.drew
                have WAD : Hid (Was w7.drew H S s.L (.slice ta K tc) T) := WA7.out.drew
                have BD : Hid (Below H w1 w7.drew) := B7.out.drew
                have zd : H ≤ w7.drew.heap.size := hz7
                clear RE7 X7 V7 WA7 B7 hz7 x0 x1 x2 lx
                go_upto_region 21 with fail
                refine wp_region_any (by kernel_rfl) ?_
                change wpAny _ _ _ _ _ _ _ (World.drew _)
                generalize w7.drew = W7 at REd XD VD WAD BD zd ⊢
                have x0 := XD.cell 0 _ rfl
                have x1 := XD.cell 1 _ rfl
                have x2 := XD.cell 2 _ rfl
                have lx := XD.lt
                refine take_to (i := 0) (d := some 96) (v := .int .i64 0) rfl rfl (by kernel_rfl) (by kernel_rfl) (by kernel_rfl) (fun _ _ _ h => h) (Or.inl ⟨by rfl, fun w => by go_simp⟩) ?_
                simp only [Act.put, List.setIfInBounds_toArray, List.set_cons_zero, List.set_cons_succ]
                refine take_to (i := 1) (d := some 97) (v := .bool false) rfl rfl (by kernel_rfl) (by kernel_rfl) (by kernel_rfl) (fun _ _ _ h => h) (Or.inl ⟨by rfl, fun w => by go_simp⟩) ?_
                simp only [Act.put, List.setIfInBounds_toArray, List.set_cons_zero, List.set_cons_succ]
                refine take_to (i := 2) (d := some 98) (v := .bool false) rfl rfl (by kernel_rfl) (by kernel_rfl) (by kernel_rfl) (fun _ _ _ h => h) (Or.inl ⟨by rfl, fun w => by go_simp⟩) ?_
                simp only [Act.put, List.setIfInBounds_toArray, List.set_cons_zero, List.set_cons_succ]
                refine wpAny_ready (rs := [3]) (by kernel_rfl) (by simp) ?_
                refine AllReady.cons rfl (fun K hK => ?_) AllReady.nil
                go_simp
                refine hK _ _ ?_; clear hK K
                refine wpAny_ready (rs := [4]) (by kernel_rfl) (by simp) ?_
                refine AllReady.cons rfl (fun K hK => ?_) AllReady.nil
                go_simp
                go_wp2_with (go_at_call 17; (refine (CK.out W7 REd.out).mono ?_); rintro e wa ⟨rfl, ba⟩)
                refine take_to (i := 5) (d := some 101) (v := .bool false) rfl rfl (by kernel_rfl) (by kernel_rfl) (by kernel_rfl) (fun _ _ _ h => h) (Or.inl ⟨by rfl, fun w => by go_simp⟩) ?_
                simp only [Act.put, List.setIfInBounds_toArray, List.set_cons_zero, List.set_cons_succ]
                refine take_to (i := 6) (d := some 102) (v := .bool false) rfl rfl (by kernel_rfl) (by kernel_rfl) (by kernel_rfl) (fun _ _ _ h => h) (Or.inl ⟨by rfl, fun w => by go_simp⟩) ?_
                simp only [Act.put, List.setIfInBounds_toArray, List.set_cons_zero, List.set_cons_succ]
                refine take_to (i := 7) (d := some 103) (v := .bool false) rfl rfl (by kernel_rfl) (by kernel_rfl) (by kernel_rfl) (fun _ _ _ h => h) (Or.inl ⟨by rfl, fun w => by go_simp⟩) ?_
                simp only [Act.put, List.setIfInBounds_toArray, List.set_cons_zero, List.set_cons_succ]
                refine take_to (i := 8) (d := some 104) (v := .int .i64 0) rfl rfl (by kernel_rfl) (by kernel_rfl) (by kernel_rfl) (fun _ _ _ h => h) (Or.inl ⟨by rfl, fun w => by go_simp⟩) ?_
                simp only [Act.put, List.setIfInBounds_toArray, List.set_cons_zero, List.set_cons_succ]
                refine take_to (i := 9) (d := some 105) (v := .bool false) rfl rfl (by kernel_rfl) (by kernel_rfl) (by kernel_rfl) (fun _ _ _ h => h) (Or.inl ⟨by rfl, fun w => by go_simp⟩) ?_
                simp only [Act.put, List.setIfInBounds_toArray, List.set_cons_zero, List.set_cons_succ]
                refine take_to (i := 10) (d := some 106) (v := .bool false) rfl rfl (by kernel_rfl) (by kernel_rfl) (by kernel_rfl) (fun _ _ _ h => h) (Or.inl ⟨by rfl, fun w => by go_simp⟩) ?_
                simp only [Act.put, List.setIfInBounds_toArray, List.set_cons_zero, List.set_cons_succ]
                refine take_to (i := 11) (d := some 107) (v := undef) rfl rfl (by kernel_rfl) (by kernel_rfl) (by kernel_rfl) (fun _ _ _ h => h) (Or.inr ⟨by rfl, rfl⟩) ?_
                simp only [Act.put, List.setIfInBounds_toArray, List.set_cons_zero, List.set_cons_succ]
                refine take_to (i := 12) (d := some 108) (v := undef) rfl rfl (by kernel_rfl) (by kernel_rfl) (by kernel_rfl) (fun _ _ _ h => h) (Or.inr ⟨by rfl, rfl⟩) ?_
                simp only [Act.put, List.setIfInBounds_toArray, List.set_cons_zero, List.set_cons_succ]
                refine take_to (i := 13) (d := some 109) (v := undef) rfl rfl (by kernel_rfl) (by kernel_rfl) (by kernel_rfl) (fun _ _ _ h => h) (Or.inr ⟨by rfl, rfl⟩) ?_
                simp only [Act.put, List.setIfInBounds_toArray, List.set_cons_zero, List.set_cons_succ]
                refine take_to (i := 14) (d := some 110) (v := undef) rfl rfl (by kernel_rfl) (by kernel_rfl) (by kernel_rfl) (fun _ _ _ h => h) (Or.inr ⟨by rfl, rfl⟩) ?_
                simp only [Act.put, List.setIfInBounds_toArray, List.set_cons_zero, List.set_cons_succ]
                refine take_to (i := 15) (d := some 111) (v := undef) rfl rfl (by kernel_rfl) (by kernel_rfl) (by kernel_rfl) (fun _ _ _ h => h) (Or.inr ⟨by rfl, rfl⟩) ?_
                simp only [Act.put, List.setIfInBounds_toArray, List.set_cons_zero, List.set_cons_succ]
                refine take_to (i := 16) (d := some 112) (v := undef) rfl rfl (by kernel_rfl) (by kernel_rfl) (by kernel_rfl) (fun _ _ _ h => h) (Or.inr ⟨by rfl, rfl⟩) ?_
                simp only [Act.put, List.setIfInBounds_toArray, List.set_cons_zero, List.set_cons_succ]
                refine take_to (i := 17) (d := some 113) (v := undef) rfl rfl (by kernel_rfl) (by kernel_rfl) (by kernel_rfl) (fun _ _ _ h => h) (Or.inr ⟨by rfl, rfl⟩) ?_
                simp only [Act.put, List.setIfInBounds_toArray, List.set_cons_zero, List.set_cons_succ]
                refine take_to (i := 18) (d := some 114) (v := .bool false) rfl rfl (by kernel_rfl) (by kernel_rfl) (by kernel_rfl) (fun _ _ _ h => h) (Or.inl ⟨by rfl, fun w => by go_simp⟩) ?_
                simp only [Act.put, List.setIfInBounds_toArray, List.set_cons_zero, List.set_cons_succ]
                refine take_to (i := 19) (d := some 115) (v := .bool false) rfl rfl (by kernel_rfl) (by kernel_rfl) (by kernel_rfl) (fun _ _ _ h => h) (Or.inl ⟨by rfl, fun w => by go_simp⟩) ?_
                simp only [Act.put, List.setIfInBounds_toArray, List.set_cons_zero, List.set_cons_succ]
                refine wpAny_done (by kernel_rfl) ?_ _
                have X8 := XD.below ba XD.lt
                have V8 : Hid (StoV wa H S H v5 rs5 s5) := VD.out.below ba
                have WA8 : Hid (Was wa H S s.L (.slice ta K tc) T) := WAD.out.below ba
                have B8 : Hid (Below H w1 wa) := BD.out.trans (ba.mono zd)
                have hz8 : H ≤ wa.heap.size := Nat.le_trans zd ba.size
                clear zd ba XD VD WAD BD x0 x1 x2 lx REd CK
                have x0 := X8.cell 0 _ rfl
                have x1 := X8.cell 1 _ rfl
                have x2 := X8.cell 2 _ rfl
                have lx := X8.lt
                by_cases hp0 : p = 0
                · subst hp0
                  go_wp2_with fail
                  go_roundg (K5 - 1)
                  case measure => omega
                  case rel => exact ⟨1, by omega, by go_num, V8.out, WA8.out, B8.out⟩
                · have i1 : decide ((0 : Int) < (p : Int)) = true := by simp; omega
                  obtain ⟨r, hr⟩ : ∃ r, r + 1 = p := ⟨p - 1, by omega⟩
                  have hr2 : IntKind.i64.wrap ((p : Int) - 1) = (r : Int) := by rw [IntKind.wrap_i64]; omega
                  have hrK : r < K5 := by omega
                  have NX := gd_next V8.out.rise GD5.out (i := r) (by rw [HK5.out, hr]; exact hpK)
                  rw [hr, HX.out.1, HX.out.2.1] at NX
                  obtain ⟨yt, hyt⟩ : ∃ x, (atS s5.L r).t = x := ⟨_, rfl⟩
                  obtain ⟨ym, hym⟩ : ∃ x, (atS s5.L r).m = x := ⟨_, rfl⟩
                  obtain ⟨yE, hyE⟩ : ∃ x, (atS s5.L r).E = x := ⟨_, rfl⟩
                  rw [hyt, hym] at NX
                  have hyl : yE.length ≤ 64 := by have := F5.out _ (atS_mem (L := s5.L) (i := r) (by rw [HK5.out]; exact hrK)); rw [hyE] at this; exact this
                  have AT : Hid (Calls Tryz.prog 29 #[.pointer (some ⟨S, 0, none⟩), .int .i64 (r : Nat)] wa fun e w'' => ∃ u, e = .returned (.tuple #[snV yt ym u, .int .i64 0]) ∧ OwnE w'' wa.heap.size u yE ∧ Below wa.heap.size wa w'') := by
                    have := st_at wa H S H v5 rs5 s5 V8.out r (by rw [HK5.out]; exact hrK) (by rw [hyE]; omega)
                    rw [pre_atE, hyt, hym, hyE] at this; exact this
                  clear hyt hym hyE hyl
                  go_wp2_with fail
                  refine AT.out.mono ?_; rintro e w9 ⟨u9, rfl, o9, bb⟩
                  obtain ⟨of, cf, rfl⟩ := o9.form
                  obtain ⟨nF, hnF⟩ : ∃ n, yE.length = n := ⟨_, rfl⟩
                  rw [hnF]
                  have X9 := X8.below bb X8.lt
                  clear o9 AT hnF x0 x1 x2 lx X8
                  have V9 : Hid (StoV w9 H S H v5 rs5 s5) := V8.out.below bb
                  have WA9 : Hid (Was w9 H S s.L (.slice ta K tc) T) := WA8.out.below bb
                  have B9 : Hid (Below H w1 w9) := B8.out.trans ((bb).mono hz8)
                  have hz9 : H ≤ w9.heap.size := Nat.le_trans hz8 (bb).size
                  clear V8 B8 hz8 WA8
                  clear bb
                  go_upto_region 25 with fail
                  generalize hW : w9.alloc (.cells #[.int .i64 yt, .int .i64 ym, .slice of nF cf] 24) = w10
                  obtain ⟨Y10, bb, -⟩ := boxed hW
                  obtain ⟨Yb, hYb⟩ : ∃ x, w9.heap.size = x := ⟨_, rfl⟩
                  rw [hYb] at Y10
                  rw [hYb]
                  have X10 := X9.below bb X9.lt
                  clear X9
                  have V10 : Hid (StoV w10 H S H v5 rs5 s5) := V9.out.below bb
                  have WA10 : Hid (Was w10 H S s.L (.slice ta K tc) T) := WA9.out.below bb
                  have B10 : Hid (Below H w1 w10) := B9.out.trans ((bb).mono hz9)
                  have hz10 : H ≤ w10.heap.size := Nat.le_trans hz9 (bb).size
                  clear V9 B9 hz9 WA9
                  clear hW hYb bb
                  have x0 := X10.cell 0 _ rfl
                  have x1 := X10.cell 1 _ rfl
                  have lx := X10.lt
                  have y0 := Y10.cell 0 _ rfl
                  have y1 := Y10.cell 1 _ rfl
                  have ly := Y10.lt
                  have j1 : decide (xt ≤ yt) = false := by simp; omega
                  have j2 : decide (xm ≤ ym) = false := by simp; omega
                  go_wp2_with fail
                  go_roundg (K5 - (p + 1))
                  case measure => omega
                  case rel => exact ⟨p + 1, by omega, by go_num, V10.out, WA10.out, B10.out⟩
              · obtain rfl : p = K5 := by omega
                go_wp2_with fail
                go_roundg (m - (k + 1))
                case measure => omega
                case rel => exact ⟨k + 1, _, _, _, by omega, by go_num, V5.out, SM5.out, F5.out, GD5.out, B5.out⟩
          · have hq1 : (F != 0) = true := by simpa using hf
            have HE : Hid (s5.L = s.L) := HFZ.out hf
            have hKK : K5 = K := by rw [← HK5.out, HE.out, HK.out]
            subst hKK
            clear HFZ
            go_wp2_with fail
            refine (st_len w5 H S H v5 rs5 s5 V5.out).mono ?_; rintro e w6 ⟨rfl, rfl⟩
            rw [HK5.out]
            go_wp2_with fail
            refine (st_len w6 H S H v5 rs5 s5 V5.out).mono ?_; rintro e w7 ⟨rfl, rfl⟩
            rw [HK5.out]
            go_wp2_with fail
            refine (HMO.out _).mono ?_; rintro e w8 ⟨rfl, rfl⟩
            go_wp2_with fail
            refine (st_len w8 H S H v5 rs5 s5 V5.out).mono ?_; rintro e w9 ⟨rfl, rfl⟩
            rw [HK5.out]
            go_wp2_with fail
            go_loopg [87] K5 (fun gh i wx => ∃ p : Nat, p + gh = K5 ∧ i = .int .i64 p ∧ StoV wx H S H v5 rs5 s5 ∧ Was wx H S s.L (.slice ta K5 tc) T ∧ Below H w1 wx)
            case atStart => exact ⟨0, by omega, rfl, V5.out, WA5.out, B5.out⟩
            case round =>
              clear V5 WA5 B5 hz5
              obtain ⟨p, hp, rfl, hv, hwa, hb⟩ := hrel
              have V5 : Hid (StoV wr H S H v5 rs5 s5) := hv
              have WA5 : Hid (Was wr H S s.L (.slice ta K5 tc) T) := hwa
              have B5 : Hid (Below H w1 wr) := hb
              have hz5 : H ≤ wr.heap.size := by have := hb.size; have := HH.out; omega
              clear hv hwa hb
              by_cases hpK : p < K5
              · obtain ⟨xt, hxt⟩ : ∃ x, (atS s5.L p).t = x := ⟨_, rfl⟩
                obtain ⟨xm, hxm⟩ : ∃ x, (atS s5.L p).m = x := ⟨_, rfl⟩
                obtain ⟨xE, hxE⟩ : ∃ x, (atS s5.L p).E = x := ⟨_, rfl⟩
                have HX : Hid ((atS s5.L p).t = xt ∧ (atS s5.L p).m = xm ∧ (atS s5.L p).E = xE) := ⟨hxt, hxm, hxE⟩
                have hxl : xE.length ≤ 64 := by have := F5.out _ (atS_mem (L := s5.L) (i := p) (by rw [HK5.out]; assumption)); rw [hxE] at this; exact this
                have AT : Hid (Calls Tryz.prog 29 #[.pointer (some ⟨S, 0, none⟩), .int .i64 (p : Nat)] wr fun e w'' => ∃ u, e = .returned (.tuple #[snV xt xm u, .int .i64 0]) ∧ OwnE w'' wr.heap.size u xE ∧ Below wr.heap.size wr w'') := by
                  have := st_at wr H S H v5 rs5 s5 V5.out p (by rw [HK5.out]; assumption) (by rw [hxE]; omega)
                  rw [pre_atE, hxt, hxm, hxE] at this; exact this
                clear hxt hxm hxE
                have HC : Hid (snE xt xm xE = 0) := by
                  have := GD5.out.good _ (atS_mem (L := s5.L) (i := p) (by rw [HK5.out]; exact hpK))
                  rw [HX.out.1, HX.out.2.1, HX.out.2.2] at this; exact this
                go_wp2_with fail
                refine AT.out.mono ?_; rintro e w6 ⟨u6, rfl, o6, bb⟩
                obtain ⟨oe, ce, rfl⟩ := o6.form
                obtain ⟨nE, hnE⟩ : ∃ n, xE.length = n := ⟨_, rfl⟩
                have RE6 : Hid (RdE w6 (.slice oe nE ce) nE (atE xE)) := by have := o6.atE; rw [hnE] at this; exact this
                have HXE : Hid (preE (atE xE) nE = xE) := by rw [← hnE]; exact pre_atE xE
                have HNE : Hid (xE.length = nE) := hnE
                rw [hnE]
                clear o6 AT hnE hxl
                have V6 : Hid (StoV w6 H S H v5 rs5 s5) := V5.out.below bb
                have WA6 : Hid (Was w6 H S s.L (.slice ta K5 tc) T) := WA5.out.below bb
                have B6 : Hid (Below H w1 w6) := B5.out.trans ((bb).mono hz5)
                have hz6 : H ≤ w6.heap.size := Nat.le_trans hz5 (bb).size
                clear V5 B5 hz5 WA5
                clear bb
                go_upto_region 21 with fail
                generalize hW : w6.alloc (.cells #[.int .i64 xt, .int .i64 xm, .slice oe nE ce] 24) = w7
                obtain ⟨X7, bb, -⟩ := boxed hW
                obtain ⟨Xb, hXb⟩ : ∃ x, w6.heap.size = x := ⟨_, rfl⟩
                rw [hXb] at X7
                rw [hXb]
                have RE7 : Hid (RdE w7 (.slice oe nE ce) nE (atE xE)) := RE6.out.below bb
                clear RE6
                have V7 : Hid (StoV w7 H S H v5 rs5 s5) := V6.out.below bb
                have WA7 : Hid (Was w7 H S s.L (.slice ta K5 tc) T) := WA6.out.below bb
                have B7 : Hid (Below H w1 w7) := B6.out.trans ((bb).mono hz6)
                have hz7 : H ≤ w7.heap.size := Nat.le_trans hz6 (bb).size
                clear V6 B6 hz6 WA6
                clear hW hXb bb
                have x0 := X7.cell 0 _ rfl
                have x1 := X7.cell 1 _ rfl
                have x2 := X7.cell 2 _ rfl
                have lx := X7.lt
                have CK : Hid (∀ w', RdE w' (.slice oe nE ce) nE (atE xE) → Calls Tryz.prog 17 #[.agg #[.int .i64 xt, .int .i64 xm, .slice oe nE ce]] w' fun e w'' => e = .returned (.int .i64 0) ∧ Below w'.heap.size w' w'') := fun w' h => by
                  have := sn_check w' xt xm _ nE (atE xE) h
                  rw [HXE.out, HC.out] at this; exact this
                have hp1 : (p : Int) < (K5 : Int) := by omega
                have hp2 : (0 : Int) ≤ (p : Int) := by omega
                obtain ⟨ta', tc', hv, -, -, tf⟩ := WA7.out.row.form
                have hTp : p < T.length := by rw [HT.out]; exact hpK
                obtain ⟨gw, hgw, hgl, hcs⟩ := tf (by intro h; rw [h] at hTp; simp at hTp)
                injection hv with e1 e2 e3
                clear e2 e3
                rw [hgw] at e1
                subst e1
                obtain ⟨z0, z1, z2⟩ := hcs p hTp
                obtain ⟨t0, t1', t2', t3⟩ := WA7.out.at_ p hTp
                rw [← HE.out, HX.out.1] at t0
                rw [← HE.out, HX.out.2.1] at t1'
                rw [← HE.out, HX.out.2.2] at t2'
                rw [t0] at z0
                rw [t1'] at z1
                obtain ⟨uW, huW⟩ : ∃ u, T[p].2.2 = u := ⟨_, rfl⟩
                rw [huW] at z2 t2'
                obtain ⟨oW, cW, huf⟩ := t2'.form
                have RW7 : Hid (RdE w7 uW nE (atE xE)) := by have := t2'.atE; rw [HNE.out] at this; exact this
                rw [HNE.out] at huf
                subst huf
                clear hgw hcs hTp t0 t1' t2' t3 huW tf
                have lw := hgl
                have RE7d : Hid (RdE w7.drew (.slice oe nE ce) nE (atE xE)) := RE7.out
                have RW7d : Hid (RdE w7.drew (.slice oW nE cW) nE (atE xE)) := RW7.out
                go_region_held3 (fun w' => w'.cell? ⟨Xb, 0, none⟩ = some (.int .i64 xt) ∧ w'.cell? ⟨Xb, 1, none⟩ = some (.int .i64 xm) ∧ w'.cell? ⟨Xb, 2, none⟩ = some (.slice oe nE ce) ∧ w'.cell? ⟨gw, p * 3, none⟩ = some (.int .i64 xt) ∧ w'.cell? ⟨gw, p * 3 + 1, none⟩ = some (.int .i64 xm) ∧ w'.cell? ⟨gw, p * 3 + 2, none⟩ = some (.slice oW nE cW)) (first | with_reducible exact ⟨x0_b, x1_b, x2_b, z0_b, z1_b, z2_b⟩ | with_reducible exact ⟨x0_a, x1_a, x2_a, z0_a, z1_a, z2_a⟩ | with_reducible exact ⟨x0, x1, x2, z0, z1, z2⟩ | go_keep)
                  (first
                    | (go_at_call 17; (refine (CK.out w7.drew RE7d.out).mono ?_); rintro e wa ⟨rfl, ba⟩; have x0_a := (ba.cell (p := ⟨Xb, 0, none⟩) lx).trans x0; have x1_a := (ba.cell (p := ⟨Xb, 1, none⟩) lx).trans x1; have x2_a := (ba.cell (p := ⟨Xb, 2, none⟩) lx).trans x2; have z0_a := (ba.cell (p := ⟨gw, p * 3, none⟩) lw).trans z0; have z1_a := (ba.cell (p := ⟨gw, p * 3 + 1, none⟩) lw).trans z1; have z2_a := (ba.cell (p := ⟨gw, p * 3 + 2, none⟩) lw).trans z2; have lx_a : Xb < wa.heap.size := Nat.lt_of_lt_of_le lx ba.size; have lw_a : gw < wa.heap.size := Nat.lt_of_lt_of_le lw ba.size)
                    | (go_at_call 31; (refine (sn_same wa xt xm (.slice oe nE ce) (.slice oW nE cW) nE (atE xE) (RE7d.out.below ba) (RW7d.out.below ba)).mono ?_); rintro e wb ⟨rfl, bb⟩; have x0_b := (bb.cell (p := ⟨Xb, 0, none⟩) lx_a).trans x0_a; have x1_b := (bb.cell (p := ⟨Xb, 1, none⟩) lx_a).trans x1_a; have x2_b := (bb.cell (p := ⟨Xb, 2, none⟩) lx_a).trans x2_a; have z0_b := (bb.cell (p := ⟨gw, p * 3, none⟩) lw_a).trans z0_a; have z1_b := (bb.cell (p := ⟨gw, p * 3 + 1, none⟩) lw_a).trans z1_a; have z2_b := (bb.cell (p := ⟨gw, p * 3 + 2, none⟩) lw_a).trans z2_a))
                have zd : H ≤ w7.drew.heap.size := hz7
                have X8 := (X7.drew.below ba X7.drew.lt).below bb (Nat.lt_of_lt_of_le X7.drew.lt ba.size)
                have V8 : Hid (StoV wb H S H v5 rs5 s5) := (V7.out.drew.below ba).below bb
                have WA8 : Hid (Was wb H S s.L (.slice (some ⟨gw, 0, none⟩) K5 tc) T) := (WA7.out.drew.below ba).below bb
                have hza : H ≤ wa.heap.size := Nat.le_trans zd ba.size
                have B8 : Hid (Below H w1 wb) := (B7.out.drew.trans (ba.mono zd)).trans (bb.mono hza)
                have hz8 : H ≤ wb.heap.size := Nat.le_trans hza bb.size
                clear zd hza ba bb X7 V7 WA7 B7 hz7 x0 x1 x2 lx z0 z1 z2 lw hgl x0_a x1_a x2_a z0_a z1_a z2_a lx_a lw_a x0_b x1_b x2_b z0_b z1_b z2_b RE7 RE7d RW7 RW7d CK
                have x0 := X8.cell 0 _ rfl
                have x1 := X8.cell 1 _ rfl
                have x2 := X8.cell 2 _ rfl
                have lx := X8.lt
                by_cases hp0 : p = 0
                · subst hp0
                  go_wp2_with fail
                  go_roundg (K5 - 1)
                  case measure => omega
                  case rel => exact ⟨1, by omega, by go_num, V8.out, WA8.out, B8.out⟩
                · have i1 : decide ((0 : Int) < (p : Int)) = true := by simp; omega
                  obtain ⟨r, hr⟩ : ∃ r, r + 1 = p := ⟨p - 1, by omega⟩
                  have hr2 : IntKind.i64.wrap ((p : Int) - 1) = (r : Int) := by rw [IntKind.wrap_i64]; omega
                  have hrK : r < K5 := by omega
                  have NX := gd_next V8.out.rise GD5.out (i := r) (by rw [HK5.out, hr]; exact hpK)
                  rw [hr, HX.out.1, HX.out.2.1] at NX
                  obtain ⟨yt, hyt⟩ : ∃ x, (atS s5.L r).t = x := ⟨_, rfl⟩
                  obtain ⟨ym, hym⟩ : ∃ x, (atS s5.L r).m = x := ⟨_, rfl⟩
                  obtain ⟨yE, hyE⟩ : ∃ x, (atS s5.L r).E = x := ⟨_, rfl⟩
                  rw [hyt, hym] at NX
                  have hyl : yE.length ≤ 64 := by have := F5.out _ (atS_mem (L := s5.L) (i := r) (by rw [HK5.out]; exact hrK)); rw [hyE] at this; exact this
                  have AT : Hid (Calls Tryz.prog 29 #[.pointer (some ⟨S, 0, none⟩), .int .i64 (r : Nat)] wb fun e w'' => ∃ u, e = .returned (.tuple #[snV yt ym u, .int .i64 0]) ∧ OwnE w'' wb.heap.size u yE ∧ Below wb.heap.size wb w'') := by
                    have := st_at wb H S H v5 rs5 s5 V8.out r (by rw [HK5.out]; exact hrK) (by rw [hyE]; omega)
                    rw [pre_atE, hyt, hym, hyE] at this; exact this
                  clear hyt hym hyE hyl
                  go_wp2_with fail
                  refine AT.out.mono ?_; rintro e w9 ⟨u9, rfl, o9, bb⟩
                  obtain ⟨of, cf, rfl⟩ := o9.form
                  obtain ⟨nF, hnF⟩ : ∃ n, yE.length = n := ⟨_, rfl⟩
                  rw [hnF]
                  have X9 := X8.below bb X8.lt
                  clear o9 AT hnF x0 x1 x2 lx X8
                  have V9 : Hid (StoV w9 H S H v5 rs5 s5) := V8.out.below bb
                  have WA9 : Hid (Was w9 H S s.L (.slice (some ⟨gw, 0, none⟩) K5 tc) T) := WA8.out.below bb
                  have B9 : Hid (Below H w1 w9) := B8.out.trans ((bb).mono hz8)
                  have hz9 : H ≤ w9.heap.size := Nat.le_trans hz8 (bb).size
                  clear V8 B8 hz8 WA8
                  clear bb
                  go_upto_region 25 with fail
                  generalize hW : w9.alloc (.cells #[.int .i64 yt, .int .i64 ym, .slice of nF cf] 24) = w10
                  obtain ⟨Y10, bb, -⟩ := boxed hW
                  obtain ⟨Yb, hYb⟩ : ∃ x, w9.heap.size = x := ⟨_, rfl⟩
                  rw [hYb] at Y10
                  rw [hYb]
                  have X10 := X9.below bb X9.lt
                  clear X9
                  have V10 : Hid (StoV w10 H S H v5 rs5 s5) := V9.out.below bb
                  have WA10 : Hid (Was w10 H S s.L (.slice (some ⟨gw, 0, none⟩) K5 tc) T) := WA9.out.below bb
                  have B10 : Hid (Below H w1 w10) := B9.out.trans ((bb).mono hz9)
                  have hz10 : H ≤ w10.heap.size := Nat.le_trans hz9 (bb).size
                  clear V9 B9 hz9 WA9
                  clear hW hYb bb
                  have x0 := X10.cell 0 _ rfl
                  have x1 := X10.cell 1 _ rfl
                  have lx := X10.lt
                  have y0 := Y10.cell 0 _ rfl
                  have y1 := Y10.cell 1 _ rfl
                  have ly := Y10.lt
                  have j1 : decide (xt ≤ yt) = false := by simp; omega
                  have j2 : decide (xm ≤ ym) = false := by simp; omega
                  go_wp2_with fail
                  go_roundg (K5 - (p + 1))
                  case measure => omega
                  case rel => exact ⟨p + 1, by omega, by go_num, V10.out, WA10.out, B10.out⟩
              · obtain rfl : p = K5 := by omega
                go_wp2_with fail
                go_roundg (m - (k + 1))
                case measure => omega
                case rel => exact ⟨k + 1, _, _, _, by omega, by go_num, V5.out, SM5.out, F5.out, GD5.out, B5.out⟩
    · obtain rfl : k = m := by omega
      go_wp2_with fail
      go_ret
      exact ⟨rfl, by rw [HH.out]; exact B4.out⟩

set_option maxRecDepth 100000 in
theorem lifted (os : Os) (started : os.Started) (H : Type) (enc : TypeId × Value → H) :
    ReturnsInHanded {} Tryz.checked os 5 .any (Rows.storeOrderSpec.pre6 enc Tryz.prog Tryz.f5 Rows.storeOrderRow.domain false) (Rows.storeOrderSpec.post enc Tryz.prog Tryz.f5 false true false false) := by
  refine returnsInHanded_of_change_sized (C := Tryz.checked) own started (by kernel_rfl) Tryz.func5
    (ChangeSpec.witness6 (enc := enc) (C := Tryz.checked) false ⟨#[], #[.int .i64 0, .slice none 0 0], []⟩ 8 (by kernel_rfl) (by kernel_rfl) (by kernel_rfl) (by kernel_rfl)) ?_
  intro W base args ds gs before hval0 hW hcnd hsz0 _
  have hval : ∀ (j : Nat) t v, Tryz.f5.params[j]? = some t → args[j]? = some v → Value.okWide Tryz.prog W .any base t v := hval0
  have hW' := hW
  obtain ⟨p, q, hA0, hV, rfl, hfz, hnd⟩ := hW
  have hA : DataW.TrodAll enc Tryz.prog W 0 (fun _ => true) true Tryz.f5.params.toList args.toList ds p := hA0
  rw [Tryz.params5] at hA hval
  have hsz : (DataW.weightsEach Tryz.prog (Tryz.f5.params.toList ++ Rows.storeOrderSpec.plain.varTypes Tryz.prog) (ds ++ gs)).all (· ≤ reachBytes) = true := hsz0
  clear hsz0
  rw [Tryz.params5] at hsz
  obtain ⟨v0, vs0, d0, ds0, p0, q0, hargs, rfl, rfl, h0, r0⟩ := trodAll_cons hA
  obtain ⟨v1, vs1, d1, ds1, p1, q1, rfl, rfl, rfl, h1, r1⟩ := trodAll_cons r0
  obtain ⟨rfl, rfl, rfl⟩ := trodAll_nil r1
  obtain rfl : args = #[v0, v1] := by cases args; simp_all
  obtain ⟨rfl, rfl⟩ := trodVars_none hV
  have hlt := hW'.lt
  have k0 := h0
  obtain ⟨a0, rfl, rfl, rfl, w0⟩ := open_int Tryz.underlying3 (hval 0 3 v0 rfl rfl) h0
  have k1 := h1
  obtain ⟨n1, L1, b1, e1, y1⟩ := open_bss (hval 1 47 v1 rfl rfl) h1
  have z1 := y1 (fun k hk => by have := List.all_eq_true.1 hsz _ (DataW.weights_mem_each (j := 1) rfl rfl k hk); simpa using this)
  clear hA0 hval0
  refine (walk W a0 w0 v1 n1 L1 b1 e1 z1).mono fun e W' ⟨he, hg⟩ => ?_
  subst he
  exact ⟨_, rfl, post_of_below hW' (fun _ _ _ => (trodAll_cons_mk (shut_bool Tryz.underlying4 _) trodAll_mk0)) (trodAll_cons_mk (Below.trod laidOut (by kernel_rfl) (of_decide_eq_true (by kernel_rfl)) k0 hg (fun x hx => by first | exact absurd hx (by simp) | exact hlt x (by simp [hx]))) (trodAll_cons_mk (Below.trod laidOut (by kernel_rfl) (of_decide_eq_true (by kernel_rfl)) k1 hg (fun x hx => by first | exact absurd hx (by simp) | exact hlt x (by simp [hx]))) trodAll_mk0)) rfl hg⟩

theorem over : Rows.storeOrderRow.holds Tryz.pinned (OpenSpec.ofChange Rows.storeOrderSpec) :=
  OpenClaim.holds_of_wide 5 Tryz.f5 rfl rfl rfl rfl rfl rfl rfl ⟨rfl, rfl, rfl, rfl, rfl⟩ rfl rfl rfl rfl rfl (by kernel_rfl) Tryz.func5 (by kernel_rfl)
    (of_decide_eq_true (by kernel_rfl)) (by unfold Func.isWrapper; first | (rw [if_pos (by decide +kernel)]; kernel_rfl) | (rw [if_neg (by decide +kernel)]; exact ⟨rfl, rfl⟩))
    (fun os started H enc _ => lifted os started H enc)
end StoreOrderL

theorem storeOrder_proved : Rows.StoreOrderSaid := StoreOrderL.over
#print axioms storeOrder_proved
end Go.Proofs.YtokegpajjicehaaGreat
