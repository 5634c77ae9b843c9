/-
  Proved: what is between a datagram's head and its sum are its records' own bytes, and the head is that of one without records, but for how many there are (the law GramParts answers true at every input).
  Conditions: none.
-/
import Derived.Test.YtlhfelelgkkblaaRows
import Derived.Test.YtlhfelelgkkblaaP20
namespace Go.Proofs.Ytlhfelelgkkblaa
open Go.ChangeShapes Go.WideShapes Go.ChangeAt Go.RowKit
set_option linter.unusedVariables false

namespace GramPartsL
theorem own : ownKnob Try.prog.godebug = none := by kernel_rfl

set_option maxRecDepth 20000 in
set_option maxHeartbeats 16000000 in
theorem walk (w : World) (g : Gm) (ok : g.ok) (v : Value) (n : Nat) (A : Nat → Rc) (hA : ∀ i, i < n → (A i).ok) (hv : RdR w v n A) :
    Calls Try.prog 7 #[gmV g v] w fun e w' => e = .returned (.bool true) ∧ Below w.heap.size w w' := by
  have HR : Hid (RdR w v n A) := hv
  have HA : Hid (∀ i, i < n → (A i).ok) := hA
  have HW : Hid (∀ w', RdR w' v n A → Calls Try.prog 10 #[gmV g v] w' fun e w'' => ∃ u, e = .returned (.tuple #[u, .int .i64 (wrtE g A n)]) ∧ Own w'' w'.heap.size u (wrtB g A n) ∧ Below w'.heap.size w' w'') := fun w' h => gm_write w' g ok v n A hA h
  have HW0 : Hid (∀ w', Calls Try.prog 10 #[gmV g (.slice none 0 0)] w' fun e w'' => ∃ u, e = .returned (.tuple #[u, .int .i64 (wrtE g (fun _ => noRec) 0)]) ∧ Own w'' w'.heap.size u (wrtB g (fun _ => noRec) 0) ∧ Below w'.heap.size w' w'') := fun w' => gm_write w' g ok _ 0 _ (fun i h => absurd h (by omega)) (RdR.none _)
  have NO : Hid (wrtE g A n ≠ 0 → wrtB g A n = []) := wrtB_no
  have YE : Hid (wrtE g A n = 0 → wrtB g A n = sealed (gmB g A n) ∧ Bytes (gmB g A n) ∧ (gmB g A n).length ≤ 4092 ∧ chainR (-1) (pre A n)) := fun h => by
    obtain ⟨h1, h2⟩ := wrt_ok h
    exact ⟨by unfold wrtB; rw [if_pos h], (gmB_ok hA h1).1, by omega, gm_chain hA h1⟩
  have YF : Hid (wrtE g (fun _ => noRec) 0 = 0 → wrtB g (fun _ => noRec) 0 = sealed (hedB g 0) ∧ Bytes (hedB g 0) ∧ (hedB g 0).length ≤ 4092) := fun h => by
    obtain ⟨h1, h2⟩ := wrt_ok h
    have h3 := (gmB_ok (fun i h => absurd h (by omega)) h1).1
    rw [gm_bare] at h2 h3
    exact ⟨by unfold wrtB; rw [if_pos h, gm_bare], h3, by omega⟩
  have WH : Hid (n ≤ 100 → (hedB g 0).take ((hedB g 0).length - 1) ++ [(n : Int)] = hedB g n) := fun h => hed_last g h
  have W6 := hed_six g 0
  have WG : Hid (gmB g A n = hedB g n ++ encR (-1) (pre A n)) := rfl
  obtain ⟨er, her⟩ : ∃ x, wrtE g A n = x := ⟨_, rfl⟩
  obtain ⟨fr, hfr⟩ : ∃ x, wrtE g (fun _ => noRec) 0 = x := ⟨_, rfl⟩
  obtain ⟨X, hX⟩ : ∃ x, wrtB g A n = x := ⟨_, rfl⟩
  obtain ⟨C, hC⟩ : ∃ x, wrtB g (fun _ => noRec) 0 = x := ⟨_, rfl⟩
  obtain ⟨Y, hY⟩ : ∃ x, gmB g A n = x := ⟨_, rfl⟩
  obtain ⟨D, hD⟩ : ∃ x, hedB g 0 = x := ⟨_, rfl⟩
  obtain ⟨hn, hhn⟩ : ∃ x, hedB g n = x := ⟨_, rfl⟩
  rw [her, hX] at HW NO
  rw [hfr, hC] at HW0
  rw [her, hX, hY] at YE
  rw [hfr, hC, hD] at YF
  rw [hD, hhn] at WH
  rw [hD] at W6
  rw [hY, hhn] at WG
  clear her hfr hX hC hY hD hhn hA ok
  obtain ⟨ao, cap, rfl, hc, hm, _⟩ := hv
  obtain ⟨t, m, b⟩ := g
  by_cases hbig : 100 < n
  · go_enter Try.func7, Try.ntmps7
    go_wp2_with fail
    generalize hW : w.alloc (.cells #[.int .i64 t, .int .i64 m, .int .i64 b, .slice ao n cap] 24) = W0
    obtain ⟨A00, B00, -⟩ := boxed hW
    clear hW
    refine (gm_alive _).mono ?_; rintro e' W1 ⟨rfl, bb⟩
    have B1 := bup B00 (Nat.le_refl _) bb
    go_wp2_with fail
    go_ret
    exact ⟨rfl, B1⟩
  go_enter Try.func7, Try.ntmps7
  go_wp2_with fail
  generalize hW : w.alloc (.cells #[.int .i64 t, .int .i64 m, .int .i64 b, .slice ao n cap] 24) = W0
  obtain ⟨A0, B0, -⟩ := boxed hW
  have R0 : Hid (RdR W0 (.slice ao n cap) n A) := HR.out.below B0
  obtain ⟨H, hH⟩ : ∃ H, w.heap.size = H := ⟨_, rfl⟩
  have HH : Hid (w.heap.size = H) := hH
  have hle : H ≤ w.heap.size := by omega
  rw [hH] at A0 B0
  rw [hH]
  clear hW hH HR
  refine (HW.out _ R0.out).mono ?_; rintro e' W1 ⟨u1, rfl, own1, bb⟩
  have A1 := A0.below bb A0.lt
  have B1 := bup B0 hle bb
  have R1 : Hid (RdR W1 (.slice ao n cap) n A) := R0.out.below bb
  have X1 : Hid (Rd W1 u1 X) := own1.rd
  clear A0 B0 R0 bb HW own1
  have x0 := A1.cell 0 _ rfl
  have x1 := A1.cell 1 _ rfl
  have x2 := A1.cell 2 _ rfl
  have x3 := A1.cell 3 _ rfl
  have xl := A1.lt
  go_wp2_with fail
  generalize hV : W1.alloc (.cells #[.int .i64 t, .int .i64 m, .int .i64 b, .slice none 0 0] 24) = W2
  obtain ⟨Y2, bb, -⟩ := boxed hV
  have A2 := A1.below bb A1.lt
  have B2 := bup B1 hle bb
  have R2 : Hid (RdR W2 (.slice ao n cap) n A) := R1.out.below bb
  have X2 : Hid (Rd W2 u1 X) := X1.out.below bb
  clear x0 x1 x2 x3 xl A1 B1 R1 X1 bb hV Y2
  refine (HW0.out _).mono ?_; rintro e' W3 ⟨u3, rfl, own3, bb⟩
  have A3 := A2.below bb A2.lt
  have B3 := bup B2 hle bb
  have R3 : Hid (RdR W3 (.slice ao n cap) n A) := R2.out.below bb
  have X3 : Hid (Rd W3 u1 X) := X2.out.below bb
  have C3 : Hid (Rd W3 u3 C) := own3.rd
  clear A2 B2 R2 X2 bb own3 HW0
  obtain ⟨ao1, cap1, e1, -⟩ := X3.out
  by_cases hz : er = 0
  case neg =>
    have e0 := NO.out hz
    have hne : (er == 0) = false := by simp [hz]
    rw [e0] at e1
    subst e1
    clear NO YE YF WH WG X3 C3 R3
    go_wp2_with fail
    refine (gm_alive _).mono ?_; rintro e' W4 ⟨rfl, bb⟩
    have B4 := bup B3 hle bb
    go_wp2_with fail
    go_ret
    exact ⟨ret_bool (by simp), HH.out ▸ B4⟩
  by_cases hf : fr = 0
  case neg =>
    subst hz
    obtain ⟨N, hN⟩ : ∃ N, X.length = N := ⟨_, rfl⟩
    rw [hN] at e1
    subst e1
    have hne : (fr == 0) = false := by simp [hf]
    clear NO YE YF WH WG X3 C3 R3 hN
    go_wp2_with fail
    refine (gm_alive _).mono ?_; rintro e' W4 ⟨rfl, bb⟩
    have B4 := bup B3 hle bb
    go_wp2_with fail
    go_ret
    exact ⟨ret_bool (by simp), HH.out ▸ B4⟩
  obtain ⟨k1, k2, k3, k4⟩ := YE.out hz
  obtain ⟨k5, k6, k7⟩ := YF.out hf
  have CH : Hid (chainR (-1) (pre A n)) := k4
  have wh := WH.out (by omega)
  have BD : Hid (Bytes D) := k6
  have OX : Hid (∀ w' x, Rd w' x X → Calls Try.prog 18 #[x] w' fun e w'' => ∃ u, e = .returned (.tuple #[u, .bool true]) ∧ Own w'' w'.heap.size u Y ∧ Below w'.heap.size w' w'') := fun w' x h => by
    have c := open_any w' x X (by rw [k1]; exact sealed_ok k2) h (by rw [k1, sealed_len]; omega)
    rw [k1, sealed_open, sealed_opened] at c
    exact c
  have OC : Hid (∀ w' x, Rd w' x C → Calls Try.prog 18 #[x] w' fun e w'' => ∃ u, e = .returned (.tuple #[u, .bool true]) ∧ Own w'' w'.heap.size u D ∧ Below w'.heap.size w' w'') := fun w' x h => by
    have c := open_any w' x C (by rw [k5]; exact sealed_ok k6) h (by rw [k5, sealed_len]; omega)
    rw [k5, sealed_open, sealed_opened] at c
    exact c
  obtain ⟨M, hM⟩ : ∃ M, D.length = M := ⟨_, rfl⟩
  obtain ⟨DT, hDT⟩ : ∃ x, D.take (D.length - 1) = x := ⟨_, rfl⟩
  have DL : DT.length = M - 1 := by rw [← hDT, List.length_take]; omega
  have HDT : Hid (D.take (M - 1) = DT) := by rw [← hM]; exact hDT
  have HM : Hid (D.length = M) := hM
  rw [hDT] at wh
  rw [hM] at W6 k7
  have WH' : Hid (DT ++ [(n : Int)] = hn) := wh
  have DN : DT ≠ [] := by intro e; rw [e] at DL; simp at DL; omega
  subst hz hf
  clear NO YE YF k1 k2 k4 k5 k6 wh WH hDT hM e1
  go_wp2_with fail
  refine (OX.out _ _ X3.out).mono ?_; rintro e' W4 ⟨u4, rfl, own4, bb⟩
  have A4 := A3.below bb A3.lt
  have B4 := bup B3 hle bb
  have R4 : Hid (RdR W4 (.slice ao n cap) n A) := R3.out.below bb
  have C4 : Hid (Rd W4 u3 C) := C3.out.below bb
  have Y4 : Hid (Rd W4 u4 Y) := own4.rd
  clear A3 B3 R3 X3 C3 bb own4 OX
  go_wp2_with fail
  refine (OC.out _ _ C4.out).mono ?_; rintro e' W5 ⟨u5, rfl, own5, bb⟩
  have A5 := A4.below bb A4.lt
  have B5 := bup B4 hle bb
  have R5 : Hid (RdR W5 (.slice ao n cap) n A) := R4.out.below bb
  have Y5 : Hid (Rd W5 u4 Y) := Y4.out.below bb
  have D5 : Hid (Rd W5 u5 D) := own5.rd
  obtain ⟨g5, cap5, e5, -, -, hc5, hm5, -⟩ := own5.form (by intro e; have := HM.out; rw [e] at this; simp at this; omega)
  clear A4 B4 R4 C4 Y4 bb own5 OC
  rw [HM.out] at e5 hc5
  subst e5
  have T5 : Hid (Rd W5 (.slice (some ⟨g5, 0, none⟩) (M - 1) cap5) DT) := by have h := rd_take D5.out (k := M - 1) (by omega); rw [HDT.out] at h; exact h
  have x3_0 := A5.cell 3 _ rfl
  have xl := A5.lt
  have s1 : (0 : Int) ≤ (M : Int) - 1 := by omega
  have s2 : (M : Int) - 1 ≤ (cap5 : Int) := by omega
  have s3 : ((M : Int) - 1).toNat = M - 1 := by omega
  have s4 : IntKind.i64.wrap ((M : Int) - 1) = (M : Int) - 1 := by rw [IntKind.wrap_i64]; omega
  have s5 : (1 : Int) ≤ (M : Int) := by omega
  have s6 : (M : Int) ≤ (cap5 : Int) + 1 := by omega
  have s7 : M - 1 ≤ cap5 := by omega
  have s8 : M ≤ cap5 + 1 := by omega
  have wn : IntKind.u8.wrap (n : Int) = (n : Int) := by rw [IntKind.wrap_u8]; omega
  clear D5
  go_upto_region 13 with fail
  go_cut [12] (fun v wx => Own wx W5.heap.size v hn ∧ Below W5.heap.size W5 wx)
  case first =>
    have K1 : Blk ((W5.alloc (.cells #[] 5)).alloc (.cells #[.int .u8 (n : Int)] 5)) (W5.heap.size + 1) [.int .u8 (n : Int)] := by
      have h := Blk.new (W5.alloc (.cells #[] 5)) #[.int .u8 (n : Int)] 5 rfl
      simpa using h
    have K2 : Blk ((W5.alloc (.cells #[.int .u8 (n : Int)] 5)).alloc (.cells #[] 5)) W5.heap.size [.int .u8 (n : Int)] := (Blk.new W5 #[.int .u8 (n : Int)] 5 rfl).alloc _
    have O1 : Own (W5.alloc (.cells #[] 5)) W5.heap.size (.slice (some ⟨W5.heap.size, 0, none⟩) 0 0) [] := Own.new W5 W5.heap.size (Nat.le_refl _) [] 0 rfl (by omega)
    have O2 : Own ((W5.alloc (.cells #[] 5)).alloc (.cells #[.int .u8 (n : Int)] 5)) W5.heap.size (.slice (some ⟨W5.heap.size, 0, none⟩) 0 0) [] := O1.below ((Below.refl _ _).alloc (Nat.le_refl _) _)
    have O3 : Own ((W5.alloc (.cells #[.int .u8 (n : Int)] 5)).alloc (.cells #[] 5)) W5.heap.size (.slice (some ⟨W5.heap.size + 1, 0, none⟩) 0 0) [] := by
      have h := Own.new (W5.alloc (.cells #[.int .u8 (n : Int)] 5)) W5.heap.size (by simp) [] 0 rfl (by omega)
      have e : (W5.alloc (.cells #[.int .u8 (n : Int)] 5)).heap.size = W5.heap.size + 1 := by simp
      rw [e] at h
      exact h
    have ne1 : some (W5.heap.size + 1) ≠ (Value.slice (some ⟨W5.heap.size, 0, none⟩) 0 0).ownBlock := by simp [Value.ownBlock]
    have ne2 : some W5.heap.size ≠ (Value.slice (some ⟨W5.heap.size + 1, 0, none⟩) 0 0).ownBlock := by simp [Value.ownBlock]
    go_region_held_law (fun w' => w'.cell? ⟨H, 3, none⟩ = some (.slice ao n cap)) (first | with_reducible exact x3_7 | with_reducible exact x3_6 | with_reducible exact x3_0 | go_keep)
      (first
        | (refine grow_step rfl (some 78) rfl _ _ rfl W5.heap.size _ [] rfl (by first | exact O1.drew | exact O2.drew | exact O3.drew) _ DT rfl (by first | exact Rd.below (w := W5.drew) T5.out ((Below.refl _ _).alloc (Nat.le_refl _) _) | exact Rd.below (w := W5.drew) T5.out (((Below.refl _ _).alloc (Nat.le_refl _) _).alloc (by simp) _)) DN (by simp; omega) (by simp <;> omega) ?_; intro u6 w6 own6 gr6; rw [List.nil_append] at own6; (try simp only [Act.put, List.setIfInBounds_toArray, List.set_cons_zero, List.set_cons_succ]); have B6 : Below W5.heap.size W5 w6 := (by first | exact ((Below.refl _ W5).drew.alloc (by simp) _).trans gr6.below | exact (((Below.refl _ W5).drew.alloc (by simp) _).alloc (by simp) _).trans gr6.below); (try have NB6 := rd_blk (Blk.grow K1.drew ne1 gr6).1); (try have NC6 := rd_blk (Blk.grow K2.drew ne2 gr6).1); have A6 := A5.below B6 A5.lt; have x3_6 := A6.cell 3 _ rfl; have s6 := B6.size)
        | (refine app_step rfl (some 84) rfl _ _ rfl W5.heap.size _ DT rfl (by first | exact own6 | exact own6.below ((Below.refl _ _).alloc (Nat.le_refl _) _)) _ [(n : Int)] rfl (by first | exact Rd.one w6 n | exact NB6 | exact NC6) (by simp; omega) (by first | omega | (simp; omega)) ?_; intro u7 w7 own7 b7; (try simp only [Act.put, List.setIfInBounds_toArray, List.set_cons_zero, List.set_cons_succ]); have B7 : Below W5.heap.size W5 w7 := (by first | exact B6.trans b7 | exact (B6.alloc (by omega) _).trans b7); have A7 := A5.below B7 A5.lt; have x3_7 := A7.cell 3 _ rfl))
    all_goals (go_wp2_with fail; go_meet; exact ⟨WH'.out ▸ own7, B7⟩)
  case rest =>
    obtain ⟨O6, B6⟩ := hcut
    have A6 := A5.below B6 A5.lt
    have R6 : Hid (RdR wc (.slice ao n cap) n A) := R5.out.below B6
    have Y6 : Hid (Rd wc u4 Y) := Y5.out.below B6
    have C6 := bup B5 hle B6
    have O6' : Hid (Own wc W5.heap.size u12 hn) := O6
    have CL : Hid (hn.length ≤ 4092) := by
      have h1 : Y.length ≤ 4092 := k3
      have h2 : hn.length ≤ 4092 := by rw [WG.out, List.length_append] at h1; omega
      exact h2
    have KL : Hid (∀ k, k ≤ n → (hn ++ encR (-1) (pre A k)).length ≤ 12000) := fun k hk => by
      have h1 := chainR_ok _ _ (chain_cut CH.out hk)
      rw [pre_len] at h1
      rw [List.length_append]
      have := CL.out
      omega
    have x3 := A6.cell 3 _ rfl
    have xl' := A6.lt
    obtain ⟨Bs, hBs⟩ : ∃ x, W5.heap.size = x := ⟨_, rfl⟩
    have HBs : Hid (W5.heap.size = Bs) := hBs
    have HB5 : H ≤ Bs := by omega
    rw [hBs] at O6' B6
    clear O6 s1 s2 s3 s4 s5 s6 s7 s8 wn x3_0 xl T5 hc5 hm5 DN DL HDT HM BD hBs CL WH'
    go_wp2_with fail
    clear x3 xl'
    go_loopw [88, 12, 13] (fun i wv lv wr => ∃ k : Nat, k ≤ n ∧ i = .int .i64 k ∧ lv = .int .i64 (lastR (-1) (pre A k)) ∧ Own wr Bs wv (hn ++ encR (-1) (pre A k)) ∧ Below Bs W5 wr) (fun i _ _ _ => n - (intOf i).toNat)
    case atStart => exact ⟨0, by omega, rfl, rfl, by rw [pre_zero]; simpa [encR] using O6'.out, B6⟩
    case round =>
      obtain ⟨k, hk, rfl, rfl, q1, q4⟩ := hrel
      have KLk := KL.out k hk
      have Q1 : Hid (Own wr Bs u12 (hn ++ encR (-1) (pre A k))) := q1
      have s1 := q4.size
      have RW : Hid (RdR wr (.slice ao n cap) n A) := R5.out.below (by rw [HBs.out]; exact q4)
      have sB : Bs ≤ wr.heap.size := by have := HBs.out; omega
      clear q1
      by_cases hlt : k < n
      · obtain ⟨g1, o1, e1, l1, c1⟩ := rdR_at RW.out hlt
        have okk := HA.out k hlt
        have hch := chain_cut CH.out hk
        have LB := lastR_bd _ _ hch (by omega) (by omega)
        have WE : Hid (wrE (A k) (lastR (-1) (pre A k)) = 0) := chain_pre CH.out hlt
        have YK : Hid (encR (-1) (pre A (k + 1)) = encR (-1) (pre A k) ++ wrB (A k) (lastR (-1) (pre A k)) ∧ lastR (-1) (pre A (k + 1)) = (A k).i ∧ wrB (A k) (lastR (-1) (pre A k)) ≠ []) :=
          ⟨by rw [pre_succ, encR_snoc], by rw [pre_succ, lastR_snoc], by unfold wrB; rw [if_pos WE.out]; simp⟩
        obtain ⟨r, hr⟩ : ∃ r, A k = r := ⟨_, rfl⟩
        rw [hr] at c1 okk WE YK
        subst e1
        clear hr hch
        have x0 := c1 0 _ rfl
        have x1 := c1 1 _ rfl
        have x2 := c1 2 _ rfl
        have x3 := c1 3 _ rfl
        have x4 := c1 4 _ rfl
        have x5 := c1 5 _ rfl
        have x6 := c1 6 _ rfl
        have x7 := c1 7 _ rfl
        have x8 := c1 8 _ rfl
        simp only [Nat.add_zero] at x0
        have OKR : Hid r.ok := okk
        clear c1 okk
        obtain ⟨lst, hlst⟩ : ∃ x, lastR (-1) (pre A k) = x := ⟨_, rfl⟩
        rw [hlst] at LB WE YK
        rw [hlst]
        clear hlst
        obtain ⟨lb0, lb1⟩ := LB
        obtain ⟨acc, hacc⟩ : ∃ x, hn ++ encR (-1) (pre A k) = x := ⟨_, rfl⟩
        have HAC : Hid (hn ++ encR (-1) (pre A k) = acc) := hacc
        rw [hacc] at Q1 KLk
        obtain ⟨lw, hlw⟩ : ∃ x, wrB r lst = x := ⟨_, rfl⟩
        have HLW : Hid (wrB r lst = lw) := hlw
        have LW : lw.length ≤ 68 := by rw [← hlw]; exact wr_len OKR.out
        rw [hlw] at YK
        have y4 := YK.out.2.2
        clear hlw hacc RW
        go_wp2_with fail
        generalize hV : wr.alloc (.cells (recA r) 50) = W2
        obtain ⟨T2, bb, -⟩ := boxed hV
        have P1 : Hid (Own W2 Bs u12 acc) := Own.below Q1.out bb
        have B7 : Below Bs W5 W2 := q4.trans (bb.mono sB)
        have TA : some wr.heap.size ≠ u12.ownBlock := Blk.apart Q1.out (Nat.le_refl _)
        obtain ⟨MT, hMT⟩ : ∃ M, wr.heap.size = M := ⟨_, rfl⟩
        rw [hMT] at T2 TA sB
        rw [hMT]
        clear hV bb hMT Q1 q4 x0 x1 x2 x3 x4 x5 x6 x7 x8 l1 s1
        refine (rec_write _ r lst OKR.out (by unfold S64; omega)).mono ?_; rw [WE.out, HLW.out]; rintro e w3 ⟨u8', rfl, own3, b3⟩
        have S1 : Hid (Own w3 Bs u12 acc) := Own.below P1.out b3
        have O8 : Hid (Own w3 W2.heap.size u8' lw) := own3
        have T3 := T2.below b3 T2.lt
        have lT := T3.lt
        have B8 : Below Bs W5 w3 := B7.trans (b3.mono (by have := T2.lt; omega))
        clear P1 own3 b3 T2 B7
        go_wp2_with fail
        have y1_0 := T3.cell 1 _ rfl
        go_region_held_law (fun w' => w'.cell? ⟨MT, 1, none⟩ = some (.int .i64 r.i)) (first | with_reducible exact y1_5 | with_reducible exact y1_0 | go_keep)
          (first | (refine grow_step rfl (some 102) rfl _ _ rfl Bs _ acc rfl (by exact S1.out.drew) _ lw rfl (by exact O8.out.drew.rd) y4 (by omega) (by first | omega | (simp; omega)) ?_; intro u5' w5 own5 gr5; (try simp only [Act.put, List.setIfInBounds_toArray, List.set_cons_zero, List.set_cons_succ]); have T5 := (Blk.grow T3.drew TA gr5).1; have B9 : Below Bs W5 w5 := B8.drew.trans gr5.below; have O5 : Hid (Own w5 Bs u5' (acc ++ lw)) := own5; have y1_5 := T5.cell 1 _ rfl; clear own5 gr5))
        all_goals (go_wp2_with fail
                   go_roundw
                   case rel => exact ⟨k + 1, by omega, by go_num, by rw [YK.out.2.1], by rw [YK.out.1, ← List.append_assoc, HAC.out]; exact O5.out, B9⟩
                   case measure => simp [intOf]; omega)
      · obtain rfl : k = n := by omega
        have Y7 : Hid (Rd wr u4 Y) := Y5.out.below (by rw [HBs.out]; exact q4)
        have Z7 : Hid (Rd wr u12 Y) := by rw [WG.out]; exact Q1.out.rd
        have BF : Below H w wr := B5.trans (q4.mono HB5)
        have st1 := str_run Y7.out
        have st2 := str_run Z7.out
        obtain ⟨ZS, hZS⟩ : ∃ Z, strOfNums Y = Z := ⟨_, rfl⟩
        rw [hZS] at st1 st2
        clear hZS Y7 Z7 Q1 KLk RW
        go_wp2_with fail
        go_ret
        exact ⟨ret_bool (by simp), HH.out ▸ BF⟩

set_option maxRecDepth 100000 in
theorem lifted (os : Os) (started : os.Started) (H : Type) (enc : TypeId × Value → H) :
    ReturnsInHanded {} Try.checked os 7 .any (Rows.gramPartsSpec.pre6 enc Try.prog Try.f7 Rows.gramPartsRow.domain false) (Rows.gramPartsSpec.post enc Try.prog Try.f7 false true false false) := by
  refine returnsInHanded_of_change (C := Try.checked) own started (by kernel_rfl) Try.func7
    (ChangeSpec.witness6 (enc := enc) (C := Try.checked) false ⟨#[], #[.agg #[.int .i64 0, .int .i64 0, .int .i64 0, .slice none 0 0]], []⟩ 8 (by kernel_rfl) (by kernel_rfl) (by kernel_rfl) (by kernel_rfl)) ?_
  intro W base args ds gs before hval0 hW hcnd _
  have hval : ∀ (j : Nat) t v, Try.f7.params[j]? = some t → args[j]? = some v → Value.okWide Try.prog W .any base t v := hval0
  have hW' := hW
  obtain ⟨p, q, hA0, hV, rfl, hfz, hnd⟩ := hW
  have hA : DataW.TrodAll enc Try.prog W 0 (fun _ => true) true Try.f7.params.toList args.toList ds p := hA0
  rw [Try.params7] at hA hval
  obtain ⟨v0, vs0, d0, ds0, p0, q0, hargs, rfl, rfl, h0, r0⟩ := trodAll_cons hA
  obtain ⟨rfl, rfl, rfl⟩ := trodAll_nil r0
  obtain rfl : args = #[v0] := by cases args; simp_all
  obtain ⟨rfl, rfl⟩ := trodVars_none hV
  have hlt := hW'.lt
  have k0 := h0
  obtain ⟨g0, u0, n0, A0, e0, ok0, b0, rd0⟩ := open_gram (hval 0 24 v0 rfl rfl) h0
  subst e0
  clear hA0 hval0
  refine (walk W g0 ok0 u0 n0 A0 b0 rd0).mono fun e W' ⟨he, hg⟩ => ?_
  subst he
  exact ⟨_, rfl, post_of_below hW' (fun _ _ _ => (trodAll_cons_mk (shut_bool Try.underlying4 _) trodAll_mk0)) (trodAll_cons_mk (Below.trod laidOut (by kernel_rfl) (of_decide_eq_true (by kernel_rfl)) k0 hg (fun x hx => by first | exact absurd hx (by simp) | exact hlt x (by simp [hx]))) trodAll_mk0) rfl hg⟩

theorem over : Rows.gramPartsRow.holds Try.pinned (OpenSpec.ofChange Rows.gramPartsSpec) :=
  OpenClaim.holds_of_wide 7 Try.f7 rfl rfl rfl rfl rfl rfl rfl ⟨rfl, rfl, rfl, rfl, rfl⟩ rfl rfl rfl rfl rfl (by kernel_rfl) Try.func7 (by kernel_rfl)
    (of_decide_eq_true (by kernel_rfl)) (by unfold Func.isWrapper; first | (rw [if_pos (by decide +kernel)]; kernel_rfl) | (rw [if_neg (by decide +kernel)]; exact ⟨rfl, rfl⟩))
    (fun os started H enc _ => lifted os started H enc)
end GramPartsL

theorem gramParts_proved : Rows.GramPartsSaid := GramPartsL.over
#print axioms gramParts_proved
end Go.Proofs.Ytlhfelelgkkblaa
