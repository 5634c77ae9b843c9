/-
  Proved: records by rising Ids, written one behind the other, are read so (the law RecordRow answers true at every input).
  Conditions: none.
-/
import Derived.Test.YtjjaodlgnoiheaaRows
import Derived.Test.YtjjaodlgnoiheaaFr8
import Derived.Test.YtjjaodlgnoiheaaRec16
import Derived.Test.YtjjaodlgnoiheaaRec23
import Derived.Test.YtjjaodlgnoiheaaRec8
namespace Go.Proofs.Ytjjaodlgnoiheaa
open Go.ChangeShapes Go.WideShapes Go.ChangeAt Go.RowKit
set_option linter.unusedVariables false

namespace RecordRowL
theorem own : ownKnob Try.prog.godebug = none := by kernel_rfl

attribute [local go_sem ↓] eqR_run eqE_run eq6_run
set_option maxRecDepth 8000 in
set_option maxHeartbeats 20000000 in
theorem walk (w : World) (va : Value) (n : Nat) (A : Nat → Rc) (hA : ∀ i, i < n → (A i).ok) (ha : RdR w va n A) :
    Calls Try.prog 9 #[va] w fun e w' => e = .returned (.bool true) ∧ Below w.heap.size w w' := by
  have HA : Hid (∀ i, i < n → (A i).ok) := hA
  have HR : Hid (RdR w va n A) := ha
  obtain ⟨ao, cap, rfl, hc, hm, _⟩ := ha
  clear hA
  go_enter Try.func9, Try.ntmps9
  go_wp2_with fail
  refine (rec_alive _).mono ?_; rintro e w1 ⟨rfl, b1⟩
  have R1 : Hid (RdR w1 (.slice ao n cap) n A) := HR.out.below b1
  obtain ⟨H, hH⟩ : ∃ H, w.heap.size = H := ⟨_, rfl⟩
  have HH : Hid (w.heap.size = H) := hH
  have hle : H ≤ w.heap.size := by omega
  rw [hH] at b1
  clear hH HR
  by_cases hbig : 60 < n
  · go_wp2_with fail
    refine (rec_alive _).mono ?_; rintro e w2 ⟨rfl, b2⟩
    have B2 := bup b1 hle b2
    go_wp2_with fail
    go_ret
    exact ⟨rfl, HH.out ▸ B2⟩
  · have K1 : H ≤ w1.heap.size := Nat.le_trans hle b1.size
    have B1 : Hid (Below H w w1) := b1
    clear b1
    go_wp2_with fail
    go_loopw [25, 3, 4, 5] (fun i v3 v4 lv wr => ∃ k : Nat, k ≤ n ∧ i = .int .i64 k ∧ lv = .int .i64 (lastR (-1) (rowL A k)) ∧ Own wr w1.heap.size v3 (encR (-1) (rowL A k)) ∧ OwnR wr w1.heap.size v4 (rowL A k) ∧ Apart v3 v4 ∧ Below w1.heap.size w1 wr) (fun i _ _ _ _ => n - (intOf i).toNat)
    case atStart => exact ⟨0, by omega, rfl, rfl, Own.nil _ _, OwnR.nil _ _, Apart.nil _, Below.refl _ _⟩
    case round =>
      obtain ⟨k, hk, rfl, rfl, q1, q2, q3, q4⟩ := hrel
      have RO := row_ok A k (fun i hi => HA.out i (by omega))
      have CH := chainR_ok _ _ RO.1
      have LR : (rowL A k).length ≤ 60 := by omega
      have LE : (encR (-1) (rowL A k)).length ≤ 4080 := by omega
      have Q1 : Hid (Own wr w1.heap.size u3 (encR (-1) (rowL A k))) := q1
      have Q2 : Hid (OwnR wr w1.heap.size u4 (rowL A k)) := q2
      have Q3 : Hid (Apart u3 u4) := q3
      have s1 := q4.size
      clear q1 q2 q3
      by_cases hlt : k < n
      · obtain ⟨ao', cap', e, _, _, h3⟩ := R1.out
        injection e with e1 e2 e3
        subst e1 e3
        obtain ⟨b, o, rfl, hcell⟩ := h3.resolve_left (by omega)
        have okk := HA.out k hlt
        obtain ⟨r, hr⟩ : ∃ r, A k = r := ⟨_, rfl⟩
        have HRk : Hid (A k = r) := hr
        have cc : ∀ j x, (recC r)[j]? = some x → wr.cell? ⟨b, o + k * 9 + j, none⟩ = some x := fun j x hx => by
          have c := hcell k hlt j x (by rw [hr]; exact hx)
          exact (q4.cell (p := ⟨b, o + k * 9 + j, none⟩) (World.block_lt_of_cell? w1 _ c)).trans c
        rw [hr] at okk
        have x0 := cc 0 _ rfl
        have x1 := cc 1 _ rfl
        have x2 := cc 2 _ rfl
        have x3 := cc 3 _ rfl
        have x4 := cc 4 _ rfl
        have x5 := cc 5 _ rfl
        have x6 := cc 6 _ rfl
        have x7 := cc 7 _ rfl
        have x8 := cc 8 _ rfl
        have bl : b < wr.heap.size := World.block_lt_of_cell? wr _ x0
        have OKR : Hid r.ok := okk
        simp only [Nat.add_zero] at x0
        clear cc hcell hr okk
        have LB := lastR_bd _ _ RO.1 (by omega) (by omega)
        obtain ⟨lst, hlst⟩ : ∃ x, lastR (-1) (rowL A k) = x := ⟨_, rfl⟩
        have HLST : Hid (lastR (-1) (rowL A k) = lst) := hlst
        rw [hlst] at LB
        rw [hlst]
        clear hlst
        obtain ⟨lb0, lb1⟩ := LB
        obtain ⟨er, her⟩ : ∃ x, wrE r lst = x := ⟨_, rfl⟩
        obtain ⟨lw, hlw⟩ : ∃ x, wrB r lst = x := ⟨_, rfl⟩
        have HER : Hid (wrE r lst = er ∧ wrB r lst = lw) := ⟨her, hlw⟩
        have LW : lw.length ≤ 68 := by rw [← hlw]; exact wr_len OKR.out
        have NE : Hid (er ≠ 0 → rowL A (k + 1) = rowL A k) := fun h => rowL_no (by rw [HRk.out, HLST.out, her]; exact h)
        have YE : Hid (er = 0 → rowL A (k + 1) = rowL A k ++ [r] ∧ encR (-1) (rowL A k ++ [r]) = encR (-1) (rowL A k) ++ lw ∧ lastR (-1) (rowL A k ++ [r]) = r.i ∧ lw ≠ []) := fun h => ⟨by rw [rowL_yes (by rw [HRk.out, HLST.out, her]; exact h), HRk.out], by rw [encR_snoc, HLST.out, hlw], lastR_snoc _ _ _, by
          rw [← hlw]; unfold wrB; rw [if_pos (by rw [her]; exact h)]; simp⟩
        clear her hlw
        go_wp2_with fail
        generalize hV : wr.alloc (.cells (recA r) 25) = W2
        obtain ⟨T2, bb, _⟩ := boxed hV
        have P1 : Hid (Own W2 w1.heap.size u3 (encR (-1) (rowL A k))) := Own.below Q1.out bb
        have P2 : Hid (OwnR W2 w1.heap.size u4 (rowL A k)) := OwnR.below Q2.out bb
        have B2 := bup q4 (Nat.le_refl _) bb
        have TA : some wr.heap.size ≠ u3.ownBlock := Blk.apart Q1.out (Nat.le_refl _)
        have TR : some wr.heap.size ≠ u4.ownBlock := fun h' => by have := (Q2.out.lt _ h'.symm).2; omega
        obtain ⟨MT, hMT⟩ : ∃ M, wr.heap.size = M := ⟨_, rfl⟩
        rw [hMT] at T2 TA TR
        rw [hMT]
        clear hV bb hMT Q1 Q2 q4 x0 x1 x2 x3 x4 x5 x6 x7 x8 bl
        refine (rec_write _ r lst OKR.out (by unfold S64; omega)).mono ?_; rw [HER.out.1, HER.out.2]; rintro e w3 ⟨u8', rfl, own3, b3⟩
        have AP3 : Hid (Apart u8' u3) := Apart.new own3 P1.out
        have AP4 : Hid (Apart u8' u4) := Apart.of W2.heap.size (fun j hj => (own3.lt j hj).1) (fun j hj => (P2.out.lt j hj).2)
        have S1 : Hid (Own w3 w1.heap.size u3 (encR (-1) (rowL A k))) := Own.below P1.out b3
        have S2 : Hid (OwnR w3 w1.heap.size u4 (rowL A k)) := OwnR.below P2.out b3
        have O8 : Hid (Own w3 W2.heap.size u8' lw) := own3
        have T3 := T2.below b3 T2.lt
        have B3 := bup B2 (Nat.le_refl _) b3
        have s3 := B3.size
        clear P1 P2 own3 b3 T2 B2
        by_cases he : er = 0
        · obtain ⟨y1, y2, y3, y4⟩ := YE.out he
          have Y : Hid (rowL A (k + 1) = rowL A k ++ [r] ∧ encR (-1) (rowL A k ++ [r]) = encR (-1) (rowL A k) ++ lw ∧ lastR (-1) (rowL A k ++ [r]) = r.i) := ⟨y1, y2, y3⟩
          subst he
          clear NE YE y1 y2 y3
          go_wp2_with fail
          obtain ⟨eb, heb⟩ : ∃ x, encR (-1) (rowL A k) = x := ⟨_, rfl⟩
          obtain ⟨L, hLL⟩ : ∃ x, rowL A k = x := ⟨_, rfl⟩
          rw [heb] at S1 LE
          rw [hLL] at S2 LR
          have HEB : Hid (encR (-1) (rowL A k) = eb ∧ rowL A k = L) := ⟨heb, hLL⟩
          clear heb
          have lT := T3.lt
          have y0_0 := T3.cell 0 _ rfl
          have y1_0 := T3.cell 1 _ rfl
          have y2_0 := T3.cell 2 _ rfl
          have y3_0 := T3.cell 3 _ rfl
          have y4_0 := T3.cell 4 _ rfl
          have y5_0 := T3.cell 5 _ rfl
          have y6_0 := T3.cell 6 _ rfl
          have y7_0 := T3.cell 7 _ rfl
          have y8_0 := T3.cell 8 _ rfl
          go_region_held_law (fun w' => w'.cell? ⟨MT, 0, none⟩ = some (.int .i64 r.k) ∧ w'.cell? ⟨MT, 1, none⟩ = some (.int .i64 r.i) ∧ w'.cell? ⟨MT, 2, none⟩ = some (.int .i64 r.p0) ∧ w'.cell? ⟨MT, 3, none⟩ = some (.int .i64 r.p1) ∧ w'.cell? ⟨MT, 4, none⟩ = some (.int .i64 r.p2) ∧ w'.cell? ⟨MT, 5, none⟩ = some (.int .i64 r.v0) ∧ w'.cell? ⟨MT, 6, none⟩ = some (.int .i64 r.v1) ∧ w'.cell? ⟨MT, 7, none⟩ = some (.int .i64 r.v2) ∧ w'.cell? ⟨MT, 8, none⟩ = some (.int .u16 r.a)) (first | with_reducible exact ⟨y0_6, y1_6, y2_6, y3_6, y4_6, y5_6, y6_6, y7_6, y8_6⟩ | with_reducible exact ⟨y0_5, y1_5, y2_5, y3_5, y4_5, y5_5, y6_5, y7_5, y8_5⟩ | with_reducible exact ⟨y0_0, y1_0, y2_0, y3_0, y4_0, y5_0, y6_0, y7_0, y8_0⟩ | go_keep)
            (first
              | (refine grow_step rfl (some 39) rfl _ _ rfl w1.heap.size _ eb rfl (by first | exact S1.out.drew | exact S1.out.drew.below ((Below.refl _ _).alloc (Nat.le_refl _) _)) _ lw rfl (by first | exact O8.out.drew.rd | exact (O8.out.drew.below ((Below.refl _ _).alloc (Nat.le_refl _) _)).rd) y4 (by omega) (by first | omega | (simp; omega)) ?_; intro u39' w5 own5 gr5; (try simp only [Act.put, List.setIfInBounds_toArray, List.set_cons_zero, List.set_cons_succ]); have C2 := OwnR.grow (L := L) (B2 := w1.heap.size) (u := u4) (by first | exact S2.out | exact OwnR.below (w := w3.drew) S2.out ((Below.refl _ _).alloc (Nat.le_refl _) _)) Q3.out.symm gr5; have T5 := Blk.grow (by first | exact T3.drew | exact T3.drew.alloc _) TA gr5; have B5 : Below w1.heap.size w1 w5 := (by first | exact B3.drew.trans gr5.below | exact (B3.drew.alloc (by simp; omega) _).trans gr5.below); (try have NB5 := (Blk.grow (Blk.new w3.drew (recA r) 25 rfl) (Blk.apart S1.out (Nat.le_refl _)) gr5).1); have s5 := B5.size; have y0_5 := T5.1.cell 0 _ rfl; have y1_5 := T5.1.cell 1 _ rfl; have y2_5 := T5.1.cell 2 _ rfl; have y3_5 := T5.1.cell 3 _ rfl; have y4_5 := T5.1.cell 4 _ rfl; have y5_5 := T5.1.cell 5 _ rfl; have y6_5 := T5.1.cell 6 _ rfl; have y7_5 := T5.1.cell 7 _ rfl; have y8_5 := T5.1.cell 8 _ rfl)
              | (refine growR_step rfl (some 43) rfl _ _ rfl w1.heap.size _ L rfl (by first | exact C2.1 | exact C2.1.below ((Below.refl _ _).alloc (Nat.le_refl _) _)) _ r rfl (by first | exact fun j u hu => NB5.cell j u hu | exact fun j u hu => (Blk.new w5 (recA r) 25 rfl).cell j u hu) (by omega) (by first | omega | (simp; omega)) ?_; intro u43' w6 ownR6 gr6; (try simp only [Act.put, List.setIfInBounds_toArray, List.set_cons_zero, List.set_cons_succ]); have D1 := Own.grow (m := eb ++ lw) (B2 := w1.heap.size) (u := u39') (by first | exact own5 | exact own5.below ((Below.refl _ _).alloc (Nat.le_refl _) _)) C2.2.symm gr6; have T6 := Blk.grow (by first | exact T5.1 | exact T5.1.alloc _) TR gr6; have B6 : Below w1.heap.size w1 w6 := (by first | exact B5.trans gr6.below | exact (B5.alloc (by omega) _).trans gr6.below); have y0_6 := T6.1.cell 0 _ rfl; have y1_6 := T6.1.cell 1 _ rfl; have y2_6 := T6.1.cell 2 _ rfl; have y3_6 := T6.1.cell 3 _ rfl; have y4_6 := T6.1.cell 4 _ rfl; have y5_6 := T6.1.cell 5 _ rfl; have y6_6 := T6.1.cell 6 _ rfl; have y7_6 := T6.1.cell 7 _ rfl; have y8_6 := T6.1.cell 8 _ rfl))
          · go_wp2_with fail
            go_roundw
            case rel => exact ⟨k + 1, by omega, by go_num, by rw [Y.out.1, Y.out.2.2], by rw [Y.out.1, Y.out.2.1, HEB.out.1]; exact D1.1, by rw [Y.out.1, HEB.out.2]; exact ownR6, D1.2, B6⟩
            case measure => simp [intOf]; omega
          · go_wp2_with fail
            go_roundw
            case rel => exact ⟨k + 1, by omega, by go_num, by rw [Y.out.1, Y.out.2.2], by rw [Y.out.1, Y.out.2.1, HEB.out.1]; exact D1.1, by rw [Y.out.1, HEB.out.2]; exact ownR6, D1.2, B6⟩
            case measure => simp [intOf]; omega
        · have hR := NE.out he
          have HRW : Hid (rowL A (k + 1) = rowL A k) := hR
          have heq : (er == 0) = false := by simp [he]
          clear NE YE hR
          go_wp2_with fail
          go_roundw
          case rel => exact ⟨k + 1, by omega, by go_num, by rw [HRW.out, HLST.out], by rw [HRW.out]; exact S1.out, by rw [HRW.out]; exact S2.out, Q3.out, B3⟩
          case measure => simp [intOf]; omega
      · obtain rfl : k = n := by omega
        obtain ⟨L, hLL⟩ : ∃ x, rowL A k = x := ⟨_, rfl⟩
        rw [hLL] at RO CH LR LE Q1 Q2
        have HCH : Hid (chainR (-1) L) := RO.1
        have HBy : Hid (Bytes (encR (-1) L)) := CH.1
        obtain ⟨aR, cR, hv⟩ := Q2.out.form
        subst hv
        obtain ⟨m, hmm⟩ : ∃ m, L.length = m := ⟨_, rfl⟩
        have HMM : Hid (L.length = m) := hmm
        obtain ⟨tot, htot⟩ : ∃ t, (encR (-1) L).length = t := ⟨_, rfl⟩
        have HTOT : Hid ((encR (-1) L).length = tot) := htot
        have RD : Hid (Rd wr u3 (encR (-1) L)) := Q1.out.rd
        obtain ⟨a3, c3, h3', _, _, _, _⟩ := Q1.out.rd
        subst h3'
        rw [hmm] at LR Q2
        rw [htot] at LE RD
        rw [hmm]
        try rw [htot]
        have B2 := bup B1.out hle q4
        have QLT : Hid (∀ g, (Value.slice aR m cR).ownBlock = some g → g < wr.heap.size) := fun g hg => (Q2.out.lt g hg).2
        clear RO CH Q1 Q3 hLL htot hmm
        go_wp2_with fail
        refine (new_any _ _ (encR (-1) L) HBy.out RD.out).mono ?_; rintro e w5 ⟨rfl, r5, b5, z5⟩
        have Q5 : Hid (OwnR w5 w1.heap.size (.slice aR m cR) L) := OwnR.below Q2.out b5
        have B5 := bup B2 hle b5
        obtain ⟨K, hK⟩ : ∃ K, wr.heap.size = K := ⟨_, rfl⟩
        have HKH : H ≤ K := by omega
        rw [hK] at r5 z5 QLT
        rw [hK]
        have R5 : Hid (Rdr w5 K K ⟨encR (-1) L, 0, 0⟩) := r5
        clear r5 b5 z5 hK Q2 RD B2
        go_wp2_with fail
        go_loopw [51, 5] (fun i lv wr => ∃ (j : Nat) (c : Int), j ≤ m ∧ i = .int .i64 j ∧ lv = .int .i64 (lastR (-1) (L.take j)) ∧ Rdr wr K K ⟨encR (lastR (-1) (L.take j)) (L.drop j), c, 0⟩ ∧ c + (encR (lastR (-1) (L.take j)) (L.drop j)).length = tot ∧ OwnR wr w1.heap.size (.slice aR m cR) L ∧ Below H w wr) (fun i _ _ => m - (intOf i).toNat)
        case atStart => exact ⟨0, 0, by omega, rfl, rfl, R5.out, by have h := HTOT.out; simp [lastR]; omega, Q5.out, B5⟩
        case round =>
          obtain ⟨j, c, hj, rfl, rfl, t1, t2, t3, t4⟩ := hrel
          clear R5 Q5 B5
          by_cases hlt : j < m
          · have hjl : j < L.length := by rw [HMM.out]; exact hlt
            have hne : L ≠ [] := by intro h; rw [h] at hjl; simp at hjl
            obtain ⟨g, cg, hv, _, hgl, _, _, hcell⟩ := t3.cells hne
            injection hv with hv1 hv2 hv3
            subst hv1
            obtain ⟨r, hr⟩ : ∃ r, L.getD j noRec = r := ⟨_, rfl⟩
            have cc : ∀ t x, (recC r)[t]? = some x → wr.cell? ⟨g, j * 9 + t, none⟩ = some x := fun t x hx => hcell j hjl t x (by rw [hr]; exact hx)
            have x0 := cc 0 _ rfl
            have x1 := cc 1 _ rfl
            have x2 := cc 2 _ rfl
            have x3 := cc 3 _ rfl
            have x4 := cc 4 _ rfl
            have x5 := cc 5 _ rfl
            have x6 := cc 6 _ rfl
            have x7 := cc 7 _ rfl
            have x8 := cc 8 _ rfl
            simp only [Nat.add_zero] at x0
            have hd := drop_cons hjl
            rw [hr] at hd
            have hch := chainR_drop L (-1) j HCH.out
            obtain ⟨rs, hrs⟩ : ∃ rs, L.drop (j + 1) = rs := ⟨_, rfl⟩
            rw [hrs] at hd
            obtain ⟨lst, hlst⟩ : ∃ x, lastR (-1) (L.take j) = x := ⟨_, rfl⟩
            rw [hd, hlst] at t1 t2 hch
            rw [hlst]
            have hl1 : lastR (-1) (L.take (j + 1)) = r.i := by rw [lastR_take L (-1) j hjl, hr]
            have HL1 : Hid (lastR (-1) (L.take (j + 1)) = r.i ∧ L.drop (j + 1) = rs) := ⟨hl1, hrs⟩
            have CR : Hid (redT ⟨encR lst (r :: rs), c, 0⟩ lst = r ∧ redS ⟨encR lst (r :: rs), c, 0⟩ lst = ⟨encR r.i rs, c + (wrB r lst).length, 0⟩ ∧ redE ⟨encR lst (r :: rs), c, 0⟩ lst = 0) := chain_read hch c
            have T2 : Hid (c + (wrB r lst).length + (encR r.i rs).length = tot) := (by have h := t2; rw [show encR lst (r :: rs) = wrB r lst ++ encR r.i rs from rfl, List.length_append] at h; omega : c + ((wrB r lst).length : Int) + ((encR r.i rs).length : Int) = (tot : Int))
            have RR : Hid (Rdr wr K K ⟨encR lst (r :: rs), c, 0⟩) := t1
            have OO : Hid (OwnR wr w1.heap.size (.slice (some ⟨g, 0, none⟩) m cR) L) := t3
            have KL := t1.lt
            clear cc hcell hr hd hch hrs hlst hl1 t1 t2 t3 hv2 hv3
            go_wp2_with fail
            generalize hV : wr.alloc (.cells (recA r) 25) = W3
            obtain ⟨T3, bb, _⟩ := boxed hV
            have R3 : Hid (Rdr W3 K K ⟨encR lst (r :: rs), c, 0⟩) := RR.out.below bb KL
            have O3 : Hid (OwnR W3 w1.heap.size (.slice (some ⟨g, 0, none⟩) m cR) L) := OwnR.below OO.out bb
            have B3 := bup t4 hle bb
            obtain ⟨MT, hMT⟩ : ∃ M, wr.heap.size = M := ⟨_, rfl⟩
            have KM : K < MT := by omega
            rw [hMT] at T3
            rw [hMT]
            clear hV bb hMT RR OO t4 KL x0 x1 x2 x3 x4 x5 x6 x7 x8
            refine (rec_read _ K K _ lst R3.out).mono ?_; rw [CR.out.1, CR.out.2.1, CR.out.2.2]; rintro e w4 ⟨rfl, r4, g4⟩
            have R4 : Hid (Rdr w4 K K ⟨encR r.i rs, c + (wrB r lst).length, 0⟩) := r4
            have O4 : Hid (OwnR w4 w1.heap.size (.slice (some ⟨g, 0, none⟩) m cR) L) := OwnR.ch O3.out g4 QLT.out
            have T4 := T3.ch g4 (by omega)
            have B4 := Ch.up B3 g4 HKH
            have KL := r4.lt
            have TL := T4.lt
            clear r4 g4 R3 O3 T3 B3 CR
            have eq : recB r r = true := recB_same r
            have y0 := T4.cell 0 _ rfl
            have y1 := T4.cell 1 _ rfl
            have y2 := T4.cell 2 _ rfl
            have y3 := T4.cell 3 _ rfl
            have y4 := T4.cell 4 _ rfl
            have y5 := T4.cell 5 _ rfl
            have y6 := T4.cell 6 _ rfl
            have y7 := T4.cell 7 _ rfl
            have y8 := T4.cell 8 _ rfl
            go_wp2_with fail
            have Re : Rdr (w4.alloc (.cells (recA r) 25)) K K ⟨encR r.i rs, c + (wrB r lst).length, 0⟩ := R4.out.below ((Below.refl _ _).alloc (Nat.le_refl _) _) KL
            have Oe : OwnR (w4.alloc (.cells (recA r) 25)) w1.heap.size (.slice (some ⟨g, 0, none⟩) m cR) L := OwnR.below O4.out ((Below.refl _ _).alloc (Nat.le_refl _) _)
            have Be := B4.alloc (by omega) (.cells (recA r) 25)
            go_roundw
            case rel => exact ⟨j + 1, c + (wrB r lst).length, by omega, by go_num, by rw [HL1.out.1], by rw [HL1.out.1, HL1.out.2]; exact Re, by rw [HL1.out.1, HL1.out.2]; exact T2.out, Oe, Be⟩
            case measure => simp [intOf]; omega
          · obtain rfl : j = m := by omega
            have hnil : L.drop j = [] := List.drop_eq_nil_of_le (by rw [HMM.out]; omega)
            rw [hnil] at t1 t2
            have e1 : ∀ z, encR z [] = [] := fun z => rfl
            rw [e1] at t1 t2
            have hc2 : c = (tot : Int) := by simpa using t2
            have RR : Hid (Rdr wr K K ⟨[], c, 0⟩) := t1
            have BB : Hid (Below H w wr) := t4
            clear t1 t2 t3 t4 e1 hnil
            subst hc2
            go_wp2_with fail
            refine (done_any _ K K _ RR.out).mono ?_; rintro e w6 ⟨rfl, rfl⟩
            have hd0 : doneA ⟨[], (tot : Int), 0⟩ = 0 := by simp [doneA]
            rw [hd0]
            go_wp2_with fail
            refine (at_any _ K K _ RR.out).mono ?_; rintro e w7 ⟨rfl, rfl⟩
            go_wp2_with fail
            go_ret
            exact ⟨ret_bool (by simp), HH.out ▸ BB.out⟩

set_option maxRecDepth 100000 in
theorem lifted (os : Os) (started : os.Started) (H : Type) (enc : TypeId × Value → H) :
    ReturnsInHanded {} Try.checked os 9 .any (Rows.recordRowSpec.pre6 enc Try.prog Try.f9 Rows.recordRowRow.domain false) (Rows.recordRowSpec.post enc Try.prog Try.f9 false true false false) := by
  refine returnsInHanded_of_change (C := Try.checked) own started (by kernel_rfl) Try.func9
    (ChangeSpec.witness6 (enc := enc) (C := Try.checked) false ⟨#[], #[.slice none 0 0], []⟩ 8 (by kernel_rfl) (by kernel_rfl) (by kernel_rfl) (by kernel_rfl)) ?_
  intro W base args ds gs before hval0 hW hcnd _
  have hval : ∀ (j : Nat) t v, Try.f9.params[j]? = some t → args[j]? = some v → Value.okWide Try.prog W .any base t v := hval0
  have hW' := hW
  obtain ⟨p, q, hA0, hV, rfl, hfz, hnd⟩ := hW
  have hA : DataW.TrodAll enc Try.prog W 0 (fun _ => true) true Try.f9.params.toList args.toList ds p := hA0
  rw [Try.params9] at hA hval
  obtain ⟨v0, vs0, d0, ds0, p0, q0, hargs, rfl, rfl, h0, r0⟩ := trodAll_cons hA
  obtain ⟨rfl, rfl, rfl⟩ := trodAll_nil r0
  obtain rfl : args = #[v0] := by cases args; simp_all
  obtain ⟨rfl, rfl⟩ := trodVars_none hV
  have hlt := hW'.lt
  have k0 := h0
  obtain ⟨n0, A0, b0, e0⟩ := open_recs (hval 0 60 v0 rfl rfl) h0
  clear hA0 hval0
  refine (walk W v0 n0 A0 b0 e0).mono fun e W' ⟨he, hg⟩ => ?_
  subst he
  exact ⟨_, rfl, post_of_below hW' (fun _ _ _ => (trodAll_cons_mk (shut_bool Try.underlying4 _) trodAll_mk0)) (trodAll_cons_mk (Below.trod laidOut (by kernel_rfl) (of_decide_eq_true (by kernel_rfl)) k0 hg (fun x hx => by first | exact absurd hx (by simp) | exact hlt x (by simp [hx]))) trodAll_mk0) rfl hg⟩

theorem over : Rows.recordRowRow.holds Try.pinned (OpenSpec.ofChange Rows.recordRowSpec) :=
  OpenClaim.holds_of_wide 9 Try.f9 rfl rfl rfl rfl rfl rfl rfl ⟨rfl, rfl, rfl, rfl, rfl⟩ rfl rfl rfl rfl rfl (by kernel_rfl) Try.func9 (by kernel_rfl)
    (of_decide_eq_true (by kernel_rfl)) (by unfold Func.isWrapper; first | (rw [if_pos (by decide +kernel)]; kernel_rfl) | (rw [if_neg (by decide +kernel)]; exact ⟨rfl, rfl⟩))
    (fun os started H enc _ => lifted os started H enc)
end RecordRowL

theorem recordRow_proved : Rows.RecordRowSaid := RecordRowL.over
#print axioms recordRow_proved
end Go.Proofs.Ytjjaodlgnoiheaa
