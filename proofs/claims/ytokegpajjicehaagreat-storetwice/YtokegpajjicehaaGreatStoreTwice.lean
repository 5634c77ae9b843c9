/-
  Proved: what was taken is refused as taken already, or as too old, and nothing but a count is others (the law StoreTwice answers true at every input).
  Conditions: none.
-/
import Derived.Test.YtokegpajjicehaaGreatRows
import Derived.Test.YtokegpajjicehaaGreatP40
namespace Go.Proofs.YtokegpajjicehaaGreat
open Go.ChangeShapes Go.WideShapes Go.ChangeAt Go.RowKit
set_option linter.unusedVariables false

namespace StoreTwiceL
theorem own : ownKnob Tryz.prog.godebug = none := by kernel_rfl

set_option maxRecDepth 20000 in
set_option maxHeartbeats 16000000 in
theorem walk (w : World) (n : Int) (hn : (Lit.int .i64 n).wf = true) (va : Value) (m : Nat) (L : Nat → List Int) (hb : ∀ i, i < m → Bytes (L i)) (hl : RdBB w va m L) (hz : ∀ i, i < m → (L i).length ≤ 140737488351232) :
    Calls Tryz.prog 7 #[.int .i64 n, va] w fun e w' => e = .returned (.bool true) ∧ Below w.heap.size w w' := by
  have HL : Hid (RdBB w va m L) := hl
  have HBY : Hid (∀ i, i < m → Bytes (L i)) := hb
  have HNO : Hid (greatB L m = false → m ≤ 60 ∧ ∀ i, i < m → (L i).length ≤ 20000) := great_no hz
  obtain ⟨ao, cap, rfl, h1, h2, h3⟩ := hl
  have P3 : Hid _ := h3
  clear hn hb h3 hz
  obtain ⟨H, hH⟩ : ∃ H, w.heap.size = H := ⟨_, rfl⟩
  have HH : Hid (w.heap.size = H) := hH
  obtain ⟨hmo1, hmo2⟩ := most_bd n
  obtain ⟨M, hMe⟩ : ∃ M, mostN n = M := ⟨_, rfl⟩
  have HMO : Hid (∀ w', Calls Tryz.prog 20 #[.int .i64 n] w' fun e w'' => e = .returned (.int .i64 (M : Nat)) ∧ w'' = w') := fun w' => by have := most_any w' n; rw [hMe] at this; exact this
  rw [hMe] at hmo1 hmo2
  clear hMe
  go_enter Tryz.func7, Tryz.ntmps7
  go_wp2_with fail
  refine (HMO.out _).mono ?_; rintro e w1 ⟨rfl, rfl⟩
  go_wp2_with fail
  refine (st_new _ M hmo1 hmo2).mono ?_; rintro e w2 ⟨rfl, s2, b2⟩
  rw [hH] at s2 b2
  rw [hH]
  obtain ⟨S, hS⟩ : ∃ S, H + 1 = S := ⟨_, rfl⟩
  rw [hS] at s2 ⊢
  have V2 : Hid (StoV w2 H S H (.slice none 0 0) (emptyR M) (emptyS M)) := s2
  have B2 : Hid (Below H w1 w2) := b2
  have hz2 : H ≤ w2.heap.size := by have := b2.size; omega
  clear s2 b2 hH hS
  go_wp2_with fail
  refine (st_alive _).mono ?_; rintro e w3 ⟨rfl, b3⟩
  have V3 : Hid (StoV w3 H S H (.slice none 0 0) (emptyR M) (emptyS M)) := V2.out.below b3
  have B3 : Hid (Below H w1 w3) := B2.out.trans (b3.mono hz2)
  have hz3 : H ≤ w3.heap.size := Nat.le_trans hz2 b3.size
  clear V2 B2 hz2 b3
  have HRB : Hid (RdBB w3 (.slice ao m cap) m L) := by
    obtain ⟨ao', cap', e, q1, q2, q3⟩ := HL.out
    refine ⟨ao', cap', e, q1, q2, ?_⟩
    rcases q3 with q | ⟨b, o, q, hat⟩
    · exact Or.inl q
    · by_cases h0 : m = 0
      · exact Or.inl h0
      · refine Or.inr ⟨b, o, q, fun i hi => ?_⟩
        obtain ⟨u, c0, hr⟩ := hat i hi
        have hb0 : b < H := by have := World.block_lt_of_cell? w1 _ c0; have := HH.out; simp only at *; omega
        exact ⟨u, (B3.out.cell (p := ⟨b, o + i, none⟩) hb0).trans c0, hr.below (by rw [HH.out]; exact B3.out)⟩
  go_wp2_with fail
  refine (st_great _ _ m L HRB.out).mono ?_; rintro e w4 ⟨rfl, rfl⟩
  cases hgr : greatB L m with
  | true =>
    go_wp2_with fail
    refine (st_alive _).mono ?_; rintro e w5 ⟨rfl, b5⟩
    have B5 : Hid (Below H w1 w5) := B3.out.trans (b5.mono hz3)
    clear b5
    go_wp2_with fail
    go_ret
    exact ⟨rfl, by rw [HH.out]; exact B5.out⟩
  | false =>
  obtain ⟨hm60, hlen⟩ := HNO.out hgr
  have HLN : Hid (∀ i, i < m → (L i).length ≤ 20000) := hlen
  clear hlen hgr HRB HNO
  go_wp2_with fail
  go_loopg [7, 46] m (fun g a i wr => ∃ (k : Nat) (v : Value) (rs : Rs) (s : Sto) (T : List (Value × List Int)) (va : Value), k + g = m ∧ i = .int .i64 k ∧ va = a ∧ StoV wr H S H v rs s ∧ s.M = M ∧ Few s.L ∧ OwnL 55 wr H va (T.map Prod.fst) ∧ Offs S H va ∧ Took w1 T s ∧ s.N.getD 0 0 = T.length ∧ T.length ≤ k ∧ Below H w1 wr)
  case atStart => exact ⟨0, _, _, _, [], _, by omega, rfl, rfl, V3.out, rfl, (fun y hy => by cases hy), OwnL.nil _ _, ⟨by simp [Value.ownBlock], by simp [Value.ownBlock]⟩, Took.nil _ _, rfl, by simp, B3.out⟩
  case round =>
    clear V3 B3 hz3
    obtain ⟨k, v, rs, s, T, va, hk, rfl, rfl, hsv, hsm, hfew, how, hof, htk, hcn, hTk, hbl⟩ := hrel
    have SV : Hid (StoV wr H S H v rs s) := hsv
    have SM : Hid (s.M = M) := hsm
    have FW : Hid (Few s.L) := hfew
    have OA : Hid (OwnL 55 wr H va (T.map Prod.fst)) := how
    have OF : Hid (Offs S H va) := hof
    have TK : Hid (Took w1 T s) := htk
    have CN : Hid (s.N.getD 0 0 = T.length) := hcn
    have BB : Hid (Below H w1 wr) := hbl
    have SV0 : Hid (s.N.length = 18) := hsv.num
    have hzr : H ≤ wr.heap.size := by have := hbl.size; have := HH.out; omega
    clear hsv hsm hfew how hof htk hcn hbl
    by_cases hlt : k < m
    · obtain ⟨b, o, rfl, hat⟩ := P3.out.resolve_left (by omega)
      obtain ⟨u, c0, hr⟩ := hat k hlt
      have hb0 : b < H := by have := World.block_lt_of_cell? w1 _ c0; have := HH.out; simp only at *; omega
      have e0 := (BB.out.cell (p := ⟨b, o + k, none⟩) hb0).trans c0
      have RU : Hid (Rd w1 u (L k)) := hr
      have hby := HBY.out k hlt
      have hln := HLN.out k hlt
      obtain ⟨l, hll⟩ : ∃ l, L k = l := ⟨_, rfl⟩
      rw [hll] at RU hby hln
      have BY : Hid (Bytes l) := hby
      obtain ⟨ao2, cp2, rfl, -⟩ := RU.out
      obtain ⟨q, hq⟩ : ∃ q, l.length = q := ⟨_, rfl⟩
      rw [hq] at e0 RU hln
      have LN : Hid (l.length ≤ 20000) := by show l.length ≤ 20000; rw [hq]; exact hln
      have AC : Hid (∀ w' v rs s, StoV w' H S H v rs s → Below H w1 w' → Calls Tryz.prog 24 #[.pointer (some ⟨S, 0, none⟩), .slice ao2 q cp2] w' fun e w'' => e = .returned (.tuple #[.int .i64 (tkT s l), .int .i64 (tkE s l)]) ∧ ∃ v' rs', StoV w'' H S H v' rs' (accS s l) ∧ Chs H S H v v' w' w'') := fun w' v rs s h hb => st_accept w' H S H v rs s h (by have := h.lens; omega) _ l BY.out (by have := LN.out; omega) (RU.out.below (by rw [HH.out]; exact hb))
      clear c0 hr hat hby hln hll hq
      go_wp2_with fail
      refine (AC.out wr v rs s SV.out BB.out).mono ?_; rintro e w5 ⟨rfl, v5, rs5, sv5, c5⟩
      obtain ⟨r1, r2, r3⟩ := sto_acc SV.out sv5
      have RR : Hid (RiseT s.L ∧ RiseT (accS s l).L ∧ s.L.length ≤ s.M) := ⟨r1, r2, r3⟩
      have O5 : Hid (OwnL 55 w5 H va (T.map Prod.fst)) := OA.out.chs (by decide) SV.out OF.out c5
      have V5 : Hid (StoV w5 H S H v5 rs5 (accS s l)) := sv5
      have B5 : Hid (Below H w1 w5) := BB.out.trans c5.below
      have hz5 : H ≤ w5.heap.size := Nat.le_trans hzr c5.below.size
      have EB : Hid (Eb (tkE s l)) := eb_acc s l
      have F5 : Hid (Few (accS s l).L) := few_tk FW.out
      clear r1 r2 r3 sv5 c5 SV OA BB e0
      by_cases hf : tkE s l = 0
      · have T5 : Hid (Took w1 (T ++ [(.slice ao2 q cp2, l)]) (accS s l)) := TK.out.new RR.out.1 RR.out.2.1 RR.out.2.2 hf RU.out BY.out LN.out
        have N5 : Hid ((accS s l).N.getD 0 0 = ((T.length + 1 : Nat) : Int)) := by
          show (incN s.N (tkE s l)).getD 0 0 = _
          rw [hf, inc_zero SV0.out (by rw [CN.out]; omega), CN.out]; rfl
        have E12 : Hid (tkE (accS s l) l = 12) := took_is RR.out.1 RR.out.2.1 RR.out.2.2 hf
        rw [hf]
        clear hf TK CN FW EB RR
        obtain ⟨s5, hs5⟩ : ∃ s5, accS s l = s5 := ⟨_, rfl⟩
        have SM5 : Hid (s5.M = M) := by show s5.M = M; rw [← hs5]; exact SM.out
        rw [hs5] at V5 F5 T5 N5 E12
        clear hs5 SM
        obtain ⟨W6, hW6⟩ : ∃ W6, w5.alloc (.cells #[.slice ao2 q cp2] 55) = W6 := ⟨_, rfl⟩
        obtain ⟨x1, x2, x3, x4⟩ := boxA hW6
        have O6 : Hid (OwnL 55 W6 H va (T.map Prod.fst)) := O5.out.below x2
        have V6 : Hid (StoV W6 H S H v5 rs5 s5) := V5.out.below x2
        have B6 : Hid (Below H w1 W6) := B5.out.trans (x2.mono hz5)
        have cx := x1.cell 0 _ rfl
        have hz6 : H ≤ W6.heap.size := by omega
        obtain ⟨Vb, hVb⟩ : ∃ x, w5.heap.size = x := ⟨_, rfl⟩
        rw [hVb] at cx
        have hlT : (T.map Prod.fst).length ≤ 1000000 := by rw [List.length_map]; omega
        clear x1 x2 x3 x4 O5 V5 B5 hz5
        go_wp2_with (at_builtin; refine growL_wp rfl 47 55 (.slice none 0 0) 24 Tryz.underlying47 infoBS (by omega) (by omega) rfl _ _ rfl H _ (T.map Prod.fst) rfl (by exact O6.out) Vb 0 (.slice ao2 q cp2) _ rfl (by exact cx) rfl (by exact hlT) (by exact hz6) ?_; intro va7 w7 o7 g7)
        obtain ⟨V7a, OF7a⟩ := V6.out.growL (by decide) (by decide) O6.out g7 OF.out
        have V7 : Hid (StoV w7 H S H v5 rs5 s5) := V7a
        have OF7 : Hid (Offs S H va7) := OF7a
        have O7 : Hid (OwnL 55 w7 H va7 (T.map Prod.fst ++ [.slice ao2 q cp2])) := o7
        have B7 : Hid (Below H w1 w7) := B6.out.trans g7.below
        clear V7a OF7a o7 g7 V6 O6 B6 OF hW6 cx hz6 hlT hVb
        refine (AC.out w7 v5 rs5 s5 V7.out B7.out).mono ?_; rintro e w8 ⟨rfl, v8, rs8, sv8, c8⟩
        rw [E12.out]
        obtain ⟨r1, r2, r3⟩ := sto_acc V7.out sv8
        have O8 : Hid (OwnL 55 w8 H va7 (T.map Prod.fst ++ [.slice ao2 q cp2])) := O7.out.chs (by decide) V7.out OF7.out c8
        have V8 : Hid (StoV w8 H S H v8 rs8 (accS s5 l)) := sv8
        have B8 : Hid (Below H w1 w8) := B7.out.trans c8.below
        have T8 : Hid (Took w1 (T ++ [(.slice ao2 q cp2, l)]) (accS s5 l)) := T5.out.old r1 r2 r3
        have F8 : Hid (Few (accS s5 l).L) := few_tk F5.out
        have N8 : Hid ((accS s5 l).N.getD 0 0 = ((T.length + 1 : Nat) : Int)) := by
          show (incN s5.N (tkE s5 l)).getD 0 0 = _
          rw [E12.out, inc_other (by decide)]; exact N5.out
        clear r1 r2 r3 sv8 c8 O7 V7 B7 T5 F5 N5 E12
        go_wp2_with fail
        go_roundg (m - (k + 1))
        case measure => omega
        case rel => exact ⟨k + 1, _, _, _, T ++ [(.slice ao2 q cp2, l)], _, by omega, by go_num, rfl, V8.out, SM5.out, F8.out, by rw [List.map_append]; exact O8.out, OF7.out, T8.out, by rw [List.length_append]; exact N8.out, by rw [List.length_append]; simp; omega, B8.out⟩
      · have T5 : Hid (Took w1 T (accS s l)) := TK.out.old RR.out.1 RR.out.2.1 RR.out.2.2
        have N5 : Hid ((accS s l).N.getD 0 0 = T.length) := by
          show (incN s.N (tkE s l)).getD 0 0 = _
          rw [inc_other (by have := EB.out.1; omega)]; exact CN.out
        have hq0 : (tkE s l == 0) = false := by simpa using hf
        go_wp2_with fail
        go_roundg (m - (k + 1))
        case measure => omega
        case rel => exact ⟨k + 1, _, _, _, T, _, by omega, by go_num, rfl, V5.out, SM.out, F5.out, O5.out, OF.out, T5.out, N5.out, by omega, B5.out⟩
    · obtain rfl : k = m := by omega
      have hform := OA.out.form
      rw [List.length_map] at hform
      obtain ⟨ta, tc, hv, t1, t2, _⟩ := hform
      obtain ⟨N, hN⟩ : ∃ N, T.length = N := ⟨_, rfl⟩
      have HN : Hid (T.length = N) := hN
      rw [hN] at hv t1 CN hTk
      subst hv
      clear hN
      go_wp2_with fail
      refine (st_taken wr H S H v rs s SV.out).mono ?_; rintro e w5 ⟨rfl, rfl⟩
      rw [CN.out]
      go_wp2_with fail
      go_loopg [75] N (fun g i wr => ∃ (j : Nat) (v : Value) (rs : Rs) (s : Sto), j + g = N ∧ i = .int .i64 j ∧ StoV wr H S H v rs s ∧ Few s.L ∧ OwnL 55 wr H (.slice ta N tc) (T.map Prod.fst) ∧ Took w1 T s ∧ s.N.getD 0 0 = N ∧ Below H w1 wr)
      case atStart => exact ⟨0, _, _, _, by omega, rfl, SV.out, FW.out, OA.out, TK.out, CN.out, BB.out⟩
      case round =>
        clear SV SM FW OA TK CN BB SV0 hzr
        obtain ⟨j, v, rs, s, hj, rfl, hsv, hfew, how, htk, hcn, hbl⟩ := hrel
        have SV : Hid (StoV wr H S H v rs s) := hsv
        have FW : Hid (Few s.L) := hfew
        have OA : Hid (OwnL 55 wr H (.slice ta N tc) (T.map Prod.fst)) := how
        have TK : Hid (Took w1 T s) := htk
        have CN : Hid (s.N.getD 0 0 = N) := hcn
        have BB : Hid (Below H w1 wr) := hbl
        have hzr : H ≤ wr.heap.size := by have := hbl.size; have := HH.out; omega
        clear hsv hfew how htk hcn hbl
        by_cases hjN : j < N
        · have hjT : j < T.length := by rw [HN.out]; exact hjN
          obtain ⟨g, cp, cur, hv, _⟩ := OA.out.some_ (by intro h; have h' := congrArg List.length h; rw [List.length_map] at h'; change T.length = 0 at h'; omega)
          have hta : ta = some ⟨g, 0, none⟩ := by injection hv
          subst hta
          have c0 := OA.out.at rfl (i := j) (u := (T[j]'hjT).1) (by rw [List.getElem?_map, List.getElem?_eq_getElem hjT]; rfl)
          have hall := TK.out _ (List.getElem_mem hjT)
          obtain ⟨⟨u, l⟩, hp⟩ : ∃ p, T[j]'hjT = p := ⟨_, rfl⟩
          rw [hp] at c0 hall
          obtain ⟨hrd, hby, hln, hrg, hgo⟩ := hall
          simp only at c0 hrd hby hln hrg hgo
          have RU : Hid (Rd w1 u l) := hrd
          have BY : Hid (Bytes l) := hby
          have LN : Hid (l.length ≤ 20000) := hln
          obtain ⟨ao3, cp3, rfl, -⟩ := RU.out
          have GT : Hid (tkE s l = if isS s.L (rgG l).t = true then 12 else 13) := gone_tk hrg hgo
          have RGD : Hid (∀ w', Below H w1 w' → Calls Tryz.prog 33 #[.slice ao3 l.length cp3] w' fun e w'' => ∃ u, e = .returned (.tuple #[gmV (rgG l) u, .int .i64 0]) ∧ OwnR w'' w'.heap.size u (rgL l) ∧ Below w'.heap.size w' w'') := fun w' hb => by
            have := gm_read w' _ l BY.out (RU.out.below (by rw [HH.out]; exact hb)) (by have := LN.out; omega)
            rw [hrg] at this; exact this
          have AC : Hid (∀ w' v rs s, StoV w' H S H v rs s → Below H w1 w' → Calls Tryz.prog 24 #[.pointer (some ⟨S, 0, none⟩), .slice ao3 l.length cp3] w' fun e w'' => e = .returned (.tuple #[.int .i64 (tkT s l), .int .i64 (tkE s l)]) ∧ ∃ v' rs', StoV w'' H S H v' rs' (accS s l) ∧ Chs H S H v v' w' w'') := fun w' v rs s h hb => st_accept w' H S H v rs s h (by have := h.lens; omega) _ l BY.out (by have := LN.out; omega) (RU.out.below (by rw [HH.out]; exact hb))
          obtain ⟨q, hq⟩ : ∃ q, l.length = q := ⟨_, rfl⟩
          obtain ⟨⟨ga, gb, gc⟩, hG⟩ : ∃ G, rgG l = G := ⟨_, rfl⟩
          rw [hq] at c0 RGD AC
          rw [hG] at RGD GT
          change Hid (tkE s l = if isS s.L ga = true then 12 else 13) at GT
          have GET : Hid (∀ w', StoV w' H S H v rs s → Calls Tryz.prog 30 #[.pointer (some ⟨S, 0, none⟩), .int .i64 ga] w' fun e w'' => ∃ u, e = .returned (.tuple #[snV (getS s.L ga).t (getS s.L ga).m u, .bool (isS s.L ga)]) ∧ OwnE w'' w'.heap.size u (preE (atE (getS s.L ga).E) ((getS s.L ga).E).length) ∧ Below w'.heap.size w' w'') := fun w' h => st_get w' H S H v rs s h ga (by have := few_get FW.out ga; omega)
          obtain ⟨ib, hib⟩ : ∃ b, isS s.L ga = b := ⟨_, rfl⟩
          obtain ⟨T0, hT0⟩ : ∃ x, (getS s.L ga).t = x := ⟨_, rfl⟩
          obtain ⟨M0, hM0⟩ : ∃ x, (getS s.L ga).m = x := ⟨_, rfl⟩
          obtain ⟨E0, hE0⟩ : ∃ x, (getS s.L ga).E = x := ⟨_, rfl⟩
          rw [hib] at GT
          rw [hT0, hM0, hE0, hib] at GET
          clear hp hrd hby hln hrg hgo hq hG hib hT0 hM0 hE0 hv
          go_wp2_with fail
          refine (RGD.out wr BB.out).mono ?_; rintro e w6 ⟨ug, rfl, og, b6⟩
          obtain ⟨oa, oc, rfl⟩ := og.form
          obtain ⟨nr, hnr⟩ : ∃ x, (rgL l).length = x := ⟨_, rfl⟩
          rw [hnr]
          have V6 : Hid (StoV w6 H S H v rs s) := SV.out.below b6
          have O6 : Hid (OwnL 55 w6 H (.slice (some ⟨g, 0, none⟩) N tc) (T.map Prod.fst)) := OA.out.below b6
          have B6 : Hid (Below H w1 w6) := BB.out.trans (b6.mono hzr)
          have hz6 : H ≤ w6.heap.size := Nat.le_trans hzr b6.size
          clear SV OA BB og b6 hnr c0 RGD hzr
          go_upto_region 20 with fail
          generalize hW : w6.alloc (.cells #[.int .i64 ga, .int .i64 gb, .int .i64 gc, .slice oa nr oc] 29) = W7
          obtain ⟨G7, bb, -⟩ := boxed hW
          have V7 : Hid (StoV W7 H S H v rs s) := V6.out.below bb
          have O7 : Hid (OwnL 55 W7 H (.slice (some ⟨g, 0, none⟩) N tc) (T.map Prod.fst)) := O6.out.below bb
          have B7 : Hid (Below H w1 W7) := B6.out.trans (bb.mono hz6)
          have hz7 : H ≤ W7.heap.size := Nat.le_trans hz6 bb.size
          have g0 := G7.cell 0 _ rfl
          have lg := G7.lt
          clear hW bb V6 O6 B6 hz6 G7
          go_wp2_with fail
          refine (GET.out W7 V7.out).mono ?_; rintro e w8 ⟨u8, rfl, o8, b8⟩
          obtain ⟨oe, ce, rfl⟩ := o8.form
          obtain ⟨ne, hne⟩ : ∃ x, (preE (atE E0) E0.length).length = x := ⟨_, rfl⟩
          rw [hne]
          have V8 : Hid (StoV w8 H S H v rs s) := V7.out.below b8
          have O8 : Hid (OwnL 55 w8 H (.slice (some ⟨g, 0, none⟩) N tc) (T.map Prod.fst)) := O7.out.below b8
          have B8 : Hid (Below H w1 w8) := B7.out.trans (b8.mono hz7)
          have hz8 : H ≤ w8.heap.size := Nat.le_trans hz7 b8.size
          clear V7 O7 B7 hz7 o8 b8 hne g0 lg GET
          go_upto_region 21 with fail
          generalize hW : w8.alloc (.cells #[.int .i64 T0, .int .i64 M0, .slice oe ne ce] 24) = W9
          obtain ⟨-, bb, -⟩ := boxed hW
          have V9 : Hid (StoV W9 H S H v rs s) := V8.out.below bb
          have O9 : Hid (OwnL 55 W9 H (.slice (some ⟨g, 0, none⟩) N tc) (T.map Prod.fst)) := O8.out.below bb
          have B9 : Hid (Below H w1 W9) := B8.out.trans (bb.mono hz8)
          clear hW bb V8 O8 B8 hz8
          go_wp2_with fail
          refine (AC.out W9 v rs s V9.out B9.out).mono ?_; rintro e w10 ⟨rfl, v10, rs10, sv10, c10⟩
          obtain ⟨r1, r2, r3⟩ := sto_acc V9.out sv10
          have O10 : Hid (OwnL 55 w10 H (.slice (some ⟨g, 0, none⟩) N tc) (T.map Prod.fst)) := O9.out.chs (by decide) V9.out OF.out c10
          have V10 : Hid (StoV w10 H S H v10 rs10 (accS s l)) := sv10
          have B10 : Hid (Below H w1 w10) := B9.out.trans c10.below
          have T10 : Hid (Took w1 T (accS s l)) := TK.out.old r1 r2 r3
          have F10 : Hid (Few (accS s l).L) := few_tk FW.out
          have N10 : Hid ((accS s l).N.getD 0 0 = N) := by
            show (incN s.N (tkE s l)).getD 0 0 = _
            rw [inc_other (by rw [GT.out]; split <;> decide)]; exact CN.out
          rw [GT.out]
          clear r1 r2 r3 sv10 c10 O9 V9 B9 TK FW CN GT AC
          cases ib with
          | true =>
            rw [if_pos rfl]
            go_wp2_with fail
            go_roundg (N - (j + 1))
            case measure => omega
            case rel => exact ⟨j + 1, _, _, _, by omega, by go_num, V10.out, F10.out, O10.out, T10.out, N10.out, B10.out⟩
          | false =>
            rw [if_neg (by decide)]
            go_wp2_with fail
            go_roundg (N - (j + 1))
            case measure => omega
            case rel => exact ⟨j + 1, _, _, _, by omega, by go_num, V10.out, F10.out, O10.out, T10.out, N10.out, B10.out⟩
        · obtain rfl : j = N := by omega
          go_wp2_with fail
          refine (st_taken wr H S H v rs s SV.out).mono ?_; rintro e w6 ⟨rfl, rfl⟩
          rw [CN.out]
          go_wp2_with fail
          refine (st_taken w6 H S H v rs s SV.out).mono ?_; rintro e w7 ⟨rfl, rfl⟩
          rw [CN.out]
          go_wp2_with fail
          go_ret
          exact ⟨rfl, by rw [HH.out]; exact BB.out⟩

set_option maxRecDepth 100000 in
theorem lifted (os : Os) (started : os.Started) (H : Type) (enc : TypeId × Value → H) :
    ReturnsInHanded {} Tryz.checked os 7 .any (Rows.storeTwiceSpec.pre6 enc Tryz.prog Tryz.f7 Rows.storeTwiceRow.domain false) (Rows.storeTwiceSpec.post enc Tryz.prog Tryz.f7 false true false false) := by
  refine returnsInHanded_of_change_sized (C := Tryz.checked) own started (by kernel_rfl) Tryz.func7
    (ChangeSpec.witness6 (enc := enc) (C := Tryz.checked) false ⟨#[], #[.int .i64 0, .slice none 0 0], []⟩ 8 (by kernel_rfl) (by kernel_rfl) (by kernel_rfl) (by kernel_rfl)) ?_
  intro W base args ds gs before hval0 hW hcnd hsz0 _
  have hval : ∀ (j : Nat) t v, Tryz.f7.params[j]? = some t → args[j]? = some v → Value.okWide Tryz.prog W .any base t v := hval0
  have hW' := hW
  obtain ⟨p, q, hA0, hV, rfl, hfz, hnd⟩ := hW
  have hA : DataW.TrodAll enc Tryz.prog W 0 (fun _ => true) true Tryz.f7.params.toList args.toList ds p := hA0
  rw [Tryz.params7] at hA hval
  have hsz : (DataW.weightsEach Tryz.prog (Tryz.f7.params.toList ++ Rows.storeTwiceSpec.plain.varTypes Tryz.prog) (ds ++ gs)).all (· ≤ reachBytes) = true := hsz0
  clear hsz0
  rw [Tryz.params7] at hsz
  obtain ⟨v0, vs0, d0, ds0, p0, q0, hargs, rfl, rfl, h0, r0⟩ := trodAll_cons hA
  obtain ⟨v1, vs1, d1, ds1, p1, q1, rfl, rfl, rfl, h1, r1⟩ := trodAll_cons r0
  obtain ⟨rfl, rfl, rfl⟩ := trodAll_nil r1
  obtain rfl : args = #[v0, v1] := by cases args; simp_all
  obtain ⟨rfl, rfl⟩ := trodVars_none hV
  have hlt := hW'.lt
  have k0 := h0
  obtain ⟨a0, rfl, rfl, rfl, w0⟩ := open_int Tryz.underlying3 (hval 0 3 v0 rfl rfl) h0
  have k1 := h1
  obtain ⟨n1, L1, b1, e1, y1⟩ := open_bss (hval 1 47 v1 rfl rfl) h1
  have z1 := y1 (fun k hk => by have := List.all_eq_true.1 hsz _ (DataW.weights_mem_each (j := 1) rfl rfl k hk); simpa using this)
  clear hA0 hval0
  refine (walk W a0 w0 v1 n1 L1 b1 e1 z1).mono fun e W' ⟨he, hg⟩ => ?_
  subst he
  exact ⟨_, rfl, post_of_below hW' (fun _ _ _ => (trodAll_cons_mk (shut_bool Tryz.underlying4 _) trodAll_mk0)) (trodAll_cons_mk (Below.trod laidOut (by kernel_rfl) (of_decide_eq_true (by kernel_rfl)) k0 hg (fun x hx => by first | exact absurd hx (by simp) | exact hlt x (by simp [hx]))) (trodAll_cons_mk (Below.trod laidOut (by kernel_rfl) (of_decide_eq_true (by kernel_rfl)) k1 hg (fun x hx => by first | exact absurd hx (by simp) | exact hlt x (by simp [hx]))) trodAll_mk0)) rfl hg⟩

theorem over : Rows.storeTwiceRow.holds Tryz.pinned (OpenSpec.ofChange Rows.storeTwiceSpec) :=
  OpenClaim.holds_of_wide 7 Tryz.f7 rfl rfl rfl rfl rfl rfl rfl ⟨rfl, rfl, rfl, rfl, rfl⟩ rfl rfl rfl rfl rfl (by kernel_rfl) Tryz.func7 (by kernel_rfl)
    (of_decide_eq_true (by kernel_rfl)) (by unfold Func.isWrapper; first | (rw [if_pos (by decide +kernel)]; kernel_rfl) | (rw [if_neg (by decide +kernel)]; exact ⟨rfl, rfl⟩))
    (fun os started H enc _ => lifted os started H enc)
end StoreTwiceL

theorem storeTwice_proved : Rows.StoreTwiceSaid := StoreTwiceL.over
#print axioms storeTwice_proved
end Go.Proofs.YtokegpajjicehaaGreat
