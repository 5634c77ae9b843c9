/-
  Texts Gm10, Gm11, Gm12, Gm13 in one.
-/
import Derived.Deep.RegionLaw
import Derived.Test.YtlhfelelgkkblaaP18
namespace Go.Proofs.Ytlhfelelgkkblaa
open Go.RowKit
set_option linter.unusedVariables false
set_option maxRecDepth 8000

theorem OwnR.chUp {R B : Nat} {w w' : World} {v : Value} {L : List Rc} (h : OwnR w B v L) (k : Ch R w w') (hB : R < B) : OwnR w' B v L := by
  refine ⟨h.1, ?_⟩
  rcases h.2 with hn | ⟨g, cap, cur, hv, hB', hg, rest⟩
  · exact Or.inl hn
  · exact Or.inr ⟨g, cap, cur, hv, hB', (k.block (by omega) (Array.getElem?_eq_some_iff.1 hg).1).trans hg, rest⟩
theorem OwnR.mono {w : World} {B B' : Nat} {v : Value} {L : List Rc} (h : OwnR w B v L) (hB : B' ≤ B) : OwnR w B' v L := by
  refine ⟨h.1, ?_⟩
  rcases h.2 with hn | ⟨g, cap, cur, hv, hB', rest⟩
  · exact Or.inl hn
  · exact Or.inr ⟨g, cap, cur, hv, Nat.le_trans hB hB', rest⟩
theorem OwnR.drew {w : World} {B : Nat} {v : Value} {L : List Rc} (h : OwnR w B v L) : OwnR w.drew B v L := h

set_option maxHeartbeats 8000000 in
theorem ps_records (w : World) (K R P : Nat) (s : St) (t m b : Int) (c : Nat) (hr : Rdr w K R s) (hp : Blk w P (psC R t m b (.slice none 0 0) c)) (hRP : R < P) (hc : c ≤ 128) (hs : c ≠ 0 → s.e = 0) :
    Calls Try.prog 54 #[.pointer (some ⟨P, 0, none⟩)] w fun e w' => e = .returned (.tuple #[]) ∧ Rdr w' K R (rowS s c).1 ∧ (∃ v, Blk w' P (psC R t m b v c) ∧ OwnR w' (P + 1) v (rowS s c).2) ∧ Below R w w' := by
  have HR : Hid (Rdr w K R s) := hr
  have HB : Hid (Bytes s.l) := hr.bytes
  have HS : Hid (c ≠ 0 → s.e = 0) := hs
  have hK := hr.hK
  have x5 := hp.cell 5 _ rfl
  have lp := hp.lt
  clear hr hs
  go_enter Try.func54, Try.ntmps54
  go_wp2_with fail
  clear x5 lp
  go_loopw [9, 2] (fun i lv wr => ∃ k : Nat, k ≤ c ∧ i = .int .i64 k ∧ lv = .int .i64 (lastR (-1) (rowS s k).2) ∧ (c ≠ 0 → (rowS s k).1.e = 0) ∧ Rdr wr K R (rowS s k).1 ∧ (∃ v, Blk wr P (psC R t m b v c) ∧ OwnR wr (P + 1) v (rowS s k).2) ∧ Below R w wr) (fun i _ _ => c - (intOf i).toNat)
  case atStart => exact ⟨0, by omega, rfl, rfl, HS.out, HR.out, ⟨_, hp, OwnR.nil _ _⟩, Below.refl _ _⟩
  case round =>
    obtain ⟨k, hk, rfl, rfl, q1, q2, ⟨vv, q3, q4⟩, q5⟩ := hrel
    by_cases hlt : k < c
    · have he := q1 (by omega)
      have RO := rowS_ok HB.out k
      have LB := lastR_bd _ _ RO.1 (by omega) (by omega)
      have ONE : Hid (rowS s (k + 1) = (redS (rowS s k).1 (lastR (-1) (rowS s k).2), if redE (rowS s k).1 (lastR (-1) (rowS s k).2) = 0 then (rowS s k).2 ++ [redT (rowS s k).1 (lastR (-1) (rowS s k).2)] else (rowS s k).2)) := rowS_one he
      have RE : Hid (redE (rowS s k).1 (lastR (-1) (rowS s k).2) = (redS (rowS s k).1 (lastR (-1) (rowS s k).2)).e) := red_e (lastB_of LB.1 LB.2)
      have LL : (rowS s k).2.length ≤ 128 := by omega
      obtain ⟨sk, hsk⟩ : ∃ x, (rowS s k).1 = x := ⟨_, rfl⟩
      obtain ⟨L, hL⟩ : ∃ x, (rowS s k).2 = x := ⟨_, rfl⟩
      rw [hsk, hL] at ONE RE
      rw [hsk] at q2
      rw [hL] at q4 LB LL
      rw [hL]
      obtain ⟨lst, hlst⟩ : ∃ x, lastR (-1) L = x := ⟨_, rfl⟩
      rw [hlst] at ONE RE LB
      rw [hlst]
      have RD : Hid (∀ w', Rdr w' K R sk → Calls Try.prog 84 #[.pointer (some ⟨R, 0, none⟩), .int .i64 lst] w' fun e w'' => e = .returned (.tuple #[recV (redT sk lst), .int .i64 (redE sk lst)]) ∧ Rdr w'' K R (redS sk lst) ∧ Ch R w' w'') := fun w' h => rec_read w' K R sk lst h
      obtain ⟨r, hrr⟩ : ∃ x, redT sk lst = x := ⟨_, rfl⟩
      obtain ⟨er, her⟩ : ∃ x, redE sk lst = x := ⟨_, rfl⟩
      obtain ⟨s2, hs2⟩ : ∃ x, redS sk lst = x := ⟨_, rfl⟩
      rw [hrr, her, hs2] at RD ONE
      rw [her, hs2] at RE
      have Q2 : Hid (Rdr wr K R sk) := q2
      have Q4 : Hid (OwnR wr (P + 1) vv L) := q4
      have QF := q4.form
      obtain ⟨ao, cap, rfl⟩ := QF
      have y0 := q3.cell 0 _ rfl
      have lq := q3.lt
      clear hsk hL hlst hrr her hs2 q2 q4 q1 he RO HR HS
      go_wp2_with fail
      refine (RD.out _ Q2.out).mono ?_; rintro e w1 ⟨rfl, r1, k1⟩
      have P1 := q3.ch k1 (by omega)
      have O1 : Hid (OwnR w1 (P + 1) (.slice ao L.length cap) L) := OwnR.chUp Q4.out k1 (by omega)
      have B1 : Below R w w1 := q5.trans k1.below
      have lp1 := P1.lt
      have R1 : Hid (Rdr w1 K R s2) := r1
      clear y0 lq q3 q5 Q2 Q4 RD r1 k1
      by_cases hz : er = 0
      · subst hz
        have e2 := RE.out
        have ONE' : Hid (rowS s (k + 1) = (s2, L ++ [r]) ∧ s2.e = 0) := ⟨ONE.out.trans (by rw [if_pos rfl]), e2.symm⟩
        clear ONE RE e2
        go_wp2_with fail
        generalize hV : w1.alloc (.cells (recA r) 50) = W2
        obtain ⟨X2, bb, zz⟩ := boxed hV
        have P2 := P1.below bb lp1
        have O2 : Hid (OwnR W2 (P + 1) (.slice ao L.length cap) L) := OwnR.below O1.out bb
        have R2 : Hid (Rdr W2 K R s2) := R1.out.below bb R1.out.lt
        have B2 : Below R w W2 := B1.trans (bb.mono (by omega))
        have AP : some P ≠ (Value.slice ao L.length cap).ownBlock := fun h' => by have := (O1.out.lt _ h'.symm).1; omega
        have AM : some w1.heap.size ≠ (Value.slice ao L.length cap).ownBlock := fun h' => by have := (O1.out.lt _ h'.symm).2; omega
        obtain ⟨M, hM⟩ : ∃ M, w1.heap.size = M := ⟨_, rfl⟩
        rw [hM] at X2 AM lp1
        rw [hM]
        clear hV bb zz hM P1 O1 R1 B1
        have y4 := P2.cell 4 _ rfl
        have f4 := P2.froz 4
        have lp2 := P2.lt
        have lx2 := X2.lt
        have x0 := X2.cell 0 _ rfl
        have x1 := X2.cell 1 _ rfl
        have x2 := X2.cell 2 _ rfl
        have x3 := X2.cell 3 _ rfl
        have x4 := X2.cell 4 _ rfl
        have x5 := X2.cell 5 _ rfl
        have x6 := X2.cell 6 _ rfl
        have x7 := X2.cell 7 _ rfl
        have x8 := X2.cell 8 _ rfl
        go_region_law (first | (refine growR_step rfl (some 30) rfl _ _ rfl (P + 1) _ L rfl (OwnR.below (w := W2.drew) O2.out ((Below.refl _ _).alloc (Nat.le_refl _) _)) _ r rfl (fun j u hu => (Blk.new W2.drew (recA r) 50 rfl).cell j u hu) (by omega) (by first | omega | (simp; omega)) ?_; intro u6 w6 own6 gr6; obtain ⟨ao6, cap6, e6⟩ := own6.form; obtain ⟨n6, hn6⟩ : ∃ n6, (L ++ [r]).length = n6 := ⟨_, rfl⟩; rw [hn6] at e6; clear hn6; subst e6; (try simp only [Act.put, List.setIfInBounds_toArray, List.set_cons_zero, List.set_cons_succ]); have P6 := (Blk.grow (P2.drew.alloc _) AP gr6).1; have X6 := (Blk.grow (X2.drew.alloc _) AM gr6).1; have R6 : Hid (Rdr w6 K R s2) := Rdr.below (Rdr.below (Rdr.drew R2.out) ((Below.refl _ _).alloc (Nat.le_refl _) _) R2.out.lt) gr6.below (by omega); have B6 : Below R w w6 := (B2.drew.alloc (by simp; omega) _).trans (gr6.below.mono (by omega)); have O6 : Hid (OwnR w6 (P + 1) (Value.slice ao6 n6 cap6) (L ++ [r])) := own6; clear own6 gr6; have z4 := P6.cell 4 _ rfl; have g4 := P6.froz 4; have lp6 := P6.lt))
        all_goals (have P7 : Blk (w6.setCell ⟨P, 4, none⟩ (Value.slice ao6 n6 cap6)) P (psC R t m b (Value.slice ao6 n6 cap6) c) := P6.set 4 _ (by simp)
                   have X7 : Blk (w6.setCell ⟨P, 4, none⟩ (Value.slice ao6 n6 cap6)) M (recC r) := X6.other (fun h' => by have h2 : P = M := h'; omega) _
                   have R7 : Hid (Rdr (w6.setCell ⟨P, 4, none⟩ (Value.slice ao6 n6 cap6)) K R s2) := R6.out.ch ((Ch.refl P _).set 4 _) (by omega) (by omega)
                   have O7 : Hid (OwnR (w6.setCell ⟨P, 4, none⟩ (Value.slice ao6 n6 cap6)) (P + 1) (Value.slice ao6 n6 cap6) (L ++ [r])) := OwnR.chUp O6.out ((Ch.refl P _).set 4 _) (by omega)
                   have B7 : Below R w (w6.setCell ⟨P, 4, none⟩ (Value.slice ao6 n6 cap6)) := B6.setCell (by show R ≤ P; omega) _
                   generalize w6.setCell ⟨P, 4, none⟩ (Value.slice ao6 n6 cap6) = w7 at P7 X7 R7 O7 B7 ⊢
                   clear P6 X6 R6 O6 B6 z4 g4 lp6 x0 x1 x2 x3 x4 x5 x6 x7 x8 y4 f4
                   have z1 := X7.cell 1 _ rfl
                   have lz := X7.lt
                   go_wp2_with fail
                   go_roundw
                   case rel => exact ⟨k + 1, by omega, by go_num, by rw [ONE'.out.1, lastR_snoc], fun _ => by rw [ONE'.out.1]; exact ONE'.out.2, by rw [ONE'.out.1]; exact R7.out, ⟨(Value.slice ao6 n6 cap6), P7, by rw [ONE'.out.1]; exact O7.out⟩, B7⟩
                   case measure => simp [intOf]; omega)
      · have heq : (er == 0) = false := by simp [hz]
        have hne : s2.e ≠ 0 := by rw [← RE.out]; exact hz
        have ONE' : Hid (rowS s c = (s2, L)) := by
          have e1 : rowS s (k + 1) = (s2, L) := ONE.out.trans (by rw [if_neg hz])
          obtain ⟨j, rfl⟩ : ∃ j, c = k + 1 + j := ⟨c - (k + 1), by omega⟩
          exact (rowS_stuck (by rw [e1]; exact hne) j).trans e1
        clear ONE RE hne
        go_wp2_with fail
        generalize hV : w1.alloc (.cells (recA r) 50) = W2
        obtain ⟨X2, bb, zz⟩ := boxed hV
        have P2 := P1.below bb lp1
        have O2 : Hid (OwnR W2 (P + 1) (.slice ao L.length cap) L) := OwnR.below O1.out bb
        have R2 : Hid (Rdr W2 K R s2) := R1.out.below bb R1.out.lt
        have B2 : Below R w W2 := B1.trans (bb.mono (by omega))
        clear hV bb zz
        go_wp2_with fail
        (try simp only [Exit.inBlock, Exit.then])
        refine bodyPost_ret (results_none rfl _ _ _) rfl ?_
        exact ⟨rfl, by rw [ONE'.out]; exact R2.out, ⟨_, P2, by rw [ONE'.out]; exact O2.out⟩, B2⟩
    · obtain rfl : k = c := by omega
      have Q2 : Hid (Rdr wr K R (rowS s k).1) := q2
      have Q4 : Hid (OwnR wr (P + 1) vv (rowS s k).2) := q4
      clear q1 q2 q4 HR HS
      go_wp2_with fail
      go_end0
      exact ⟨rfl, Q2.out, ⟨_, q3, Q4.out⟩, q5⟩
end Go.Proofs.Ytlhfelelgkkblaa

namespace Go.Proofs.Ytlhfelelgkkblaa
open Go.RowKit
set_option linter.unusedVariables false
set_option maxRecDepth 20000

theorem uint_zero {m : Int} {s : St} (h : (uintS m s).e ≠ 0) : uintA m s = 0 := by
  unfold uintS at h
  unfold uintA
  by_cases h0 : s.e = 0
  · rw [if_pos h0] at h ⊢
    by_cases h1 : uintE m s.l = 0
    · rw [if_pos h1] at h; exact absurd rfl h
    · rw [if_neg h1]
  · rw [if_neg h0]
@[reducible] def stepsA (P : Nat) : Array Value := #[.func (.func 48) #[.pointer (some ⟨P, 0, none⟩)] #[], .func (.func 49) #[.pointer (some ⟨P, 0, none⟩)] #[], .func (.func 50) #[.pointer (some ⟨P, 0, none⟩)] #[], .func (.func 51) #[.pointer (some ⟨P, 0, none⟩)] #[], .func (.func 52) #[.pointer (some ⟨P, 0, none⟩)] #[], .func (.func 53) #[.pointer (some ⟨P, 0, none⟩)] #[], .func (.func 54) #[.pointer (some ⟨P, 0, none⟩)] #[]]
theorem ps_steps (w : World) (P : Nat) :
    Calls Try.prog 25 #[.pointer (some ⟨P, 0, none⟩)] w fun e w' => e = .returned (.agg (stepsA P)) ∧ Below w.heap.size w w' := by
  go_enter Try.func25, Try.ntmps25
  go_wp2_with fail
  generalize hW : w.alloc (.cells (stepsA P) 59) = W
  obtain ⟨RB, GB, _⟩ := boxed hW
  clear hW
  have q0 := RB.cell 0 _ rfl
  have q1 := RB.cell 1 _ rfl
  have q2 := RB.cell 2 _ rfl
  have q3 := RB.cell 3 _ rfl
  have q4 := RB.cell 4 _ rfl
  have q5 := RB.cell 5 _ rfl
  have q6 := RB.cell 6 _ rfl
  refine bodyPost_ret (v := .agg (stepsA P)) (by simp [results, Try.results25, go_sem, q0, q1, q2, q3, q4, q5, q6]) rfl ⟨rfl, GB⟩
theorem size_fn (w : World) : (sizeOf 1).run Try.prog w = .ok 1 w := by
  have h : (Try.prog.info? 1).map (fun i => i.size) = some 1 := by kernel_rfl
  cases hq : Try.prog.info? 1 with
  | none => simp [hq] at h
  | some i => simp [hq] at h; simp [sizeOf, typeInfo, hq, h]
theorem index7f (cs : Array Value) (k : Nat) (i : Int) (hi : i = (k : Int)) (x : Value) (hk : k < 7) (h : cs[k]? = some x) (w : World) : (Instr.index 59 (.agg cs) (.int .i64 i)).run Try.prog w = .ok x w := by
  subst hi
  have hlt : (0 : Int) ≤ (k : Int) ∧ (k : Int) < 7 := by omega
  simp only [Instr.index, Sem.run_bind, run_underlying Try.underlying59, Result.andThen_ok, asIntOf, Sem.run_pure]
  rw [if_pos (by exact hlt)]
  simp only [Sem.run_bind, size_fn, Result.andThen_ok, Int.toNat_natCast, Nat.mul_one, part, isAgg, run_underlying Try.underlying1, Sem.run_pure]
  simp [h]
theorem Blk.four {w : World} {b : Nat} {c0 c1 c2 c3 x0 x1 x2 x3 : Value} (h : Blk w b [c0, c1, c2, c3]) : Blk ((((w.setCell ⟨b, 0, none⟩ x0).setCell ⟨b, 1, none⟩ x1).setCell ⟨b, 2, none⟩ x2).setCell ⟨b, 3, none⟩ x3) b [x0, x1, x2, x3] :=
  (((h.set 0 x0 (by simp)).set 1 x1 (by simp)).set 2 x2 (by simp)).set 3 x3 (by simp)
theorem below_four {B : Nat} {a w : World} {b : Nat} {x0 x1 x2 x3 : Value} (h : Below B a w) (hb : B ≤ b) : Below B a ((((w.setCell ⟨b, 0, none⟩ x0).setCell ⟨b, 1, none⟩ x1).setCell ⟨b, 2, none⟩ x2).setCell ⟨b, 3, none⟩ x3) :=
  (((h.setCell (p := ⟨b, 0, none⟩) hb _).setCell (p := ⟨b, 1, none⟩) hb _).setCell (p := ⟨b, 2, none⟩) hb _).setCell (p := ⟨b, 3, none⟩) hb _
theorem ownR_four {B : Nat} {w : World} {b : Nat} {x0 x1 x2 x3 v : Value} {L : List Rc} (h : OwnR w B v L) (hb : b < B) : OwnR ((((w.setCell ⟨b, 0, none⟩ x0).setCell ⟨b, 1, none⟩ x1).setCell ⟨b, 2, none⟩ x2).setCell ⟨b, 3, none⟩ x3) B v L :=
  h.chUp (((((Ch.refl b w).set 0 _).set 1 _).set 2 _).set 3 _) hb

set_option maxHeartbeats 16000000 in
theorem gm_read (w : World) (v : Value) (l : List Int) (hb : Bytes l) (h : Rd w v l) (hlen : l.length ≤ 140737488355328) :
    Calls Try.prog 14 #[v] w fun e w' => ∃ u, e = .returned (.tuple #[gmV (rgG l) u, .int .i64 (rgE l)]) ∧ OwnR w' w.heap.size u (rgL l) ∧ Below w.heap.size w w' := by
  have HB : Hid (Bytes l) := hb
  have HRd : Hid (Rd w v l) := h
  have HL : Hid (l.length ≤ 140737488355328) := hlen
  have BO : Hid (Bytes (opened l)) := (by unfold opened; split; exact hb.take _; intro c hc; simp at hc : Bytes (opened l))
  have LO : Hid (4096 < l.length → rgE l = 8) := fun h => by unfold rgE; rw [if_pos h]
  have NO : Hid (¬ 4096 < l.length → openB l = false → rgE l = 9) := fun h h2 => by unfold rgE; rw [if_neg h, if_neg (by rw [h2]; simp)]
  have YE : Hid (¬ 4096 < l.length → openB l = true → rgE l = doneA (rF (opened l)).1) := fun h h2 => by unfold rgE; rw [if_neg h, if_pos h2]; rfl
  have ZE : Hid (rgE l ≠ 0 → rgG l = ⟨0, 0, 0⟩ ∧ rgL l = []) := fun h => ⟨by unfold rgG; rw [if_neg h], by unfold rgL; rw [if_neg h]⟩
  have GO : Hid (rgE l = 0 → rgG l = ⟨rT (opened l), rM (opened l), rP (opened l)⟩ ∧ rgL l = (rF (opened l)).2) := fun h => ⟨by unfold rgG; rw [if_pos h], by unfold rgL; rw [if_pos h]⟩
  obtain ⟨E, hE⟩ : ∃ x, rgE l = x := ⟨_, rfl⟩
  obtain ⟨G, hG⟩ : ∃ x, rgG l = x := ⟨_, rfl⟩
  obtain ⟨L, hL⟩ : ∃ x, rgL l = x := ⟨_, rfl⟩
  obtain ⟨q, hq⟩ : ∃ x, openB l = x := ⟨_, rfl⟩
  obtain ⟨ol, hol⟩ : ∃ x, opened l = x := ⟨_, rfl⟩
  obtain ⟨N, hN⟩ : ∃ x, l.length = x := ⟨_, rfl⟩
  have OP : Hid (∀ w', Rd w' v l → Calls Try.prog 18 #[v] w' fun e w'' => ∃ u, e = .returned (.tuple #[u, .bool q]) ∧ Own w'' w'.heap.size u ol ∧ Below w'.heap.size w' w'') := fun w' h' => by rw [← hq, ← hol]; exact open_any w' v l HB.out h' HL.out
  rw [hN, hE] at LO
  rw [hN, hq, hE] at NO
  rw [hN, hq, hol, hE] at YE
  rw [hE, hG, hL] at ZE
  rw [hE, hol, hG, hL] at GO
  rw [hol] at BO
  rw [hE, hG, hL]
  obtain ⟨ao, cap, rfl, hc, hm, _⟩ := h
  rw [hN] at hc HRd OP ⊢
  clear hE hG hL hq hol hN hlen hb HB HL
  by_cases hlong : 4096 < N
  · have e8 := LO.out hlong
    obtain ⟨z1, z2⟩ := ZE.out (by rw [e8]; decide)
    subst e8 z1 z2
    clear LO NO YE ZE GO OP
    go_enter Try.func14, Try.ntmps14
    go_wp2_with fail
    generalize hW : w.alloc (.cells #[.int .i64 0, .int .i64 0, .int .i64 0, .slice none 0 0] 24) = W
    obtain ⟨RB, GB, _⟩ := boxed hW
    clear hW
    have q0 := RB.cell 0 _ rfl
    have q1 := RB.cell 1 _ rfl
    have q2 := RB.cell 2 _ rfl
    have q3 := RB.cell 3 _ rfl
    refine bodyPost_ret (v := .tuple #[gmV ⟨0, 0, 0⟩ (.slice none 0 0), .int .i64 8]) (by simp [results, Try.results14, go_sem, q0, q1, q2, q3]) rfl ⟨_, rfl, OwnR.nil _ _, GB⟩
  have EQ0 := NO.out hlong
  have EQ1 := YE.out hlong
  have NO' : Hid (q = false → E = 9) := EQ0
  have YE' : Hid (q = true → E = doneA (rF ol).1) := EQ1
  clear LO NO YE EQ0 EQ1
  go_enter Try.func14, Try.ntmps14
  go_wp2_with fail
  generalize hW : w.alloc (.cells #[.int .i64 0, .int .i64 0, .int .i64 0, .slice none 0 0] 24) = W
  obtain ⟨Aa, Ba, _⟩ := boxed hW
  obtain ⟨H, hH⟩ : ∃ H, w.heap.size = H := ⟨_, rfl⟩
  have HH : Hid (w.heap.size = H) := hH
  rw [hH] at Aa Ba
  rw [hH]
  have hle : H ≤ w.heap.size := by omega
  clear hW
  refine (OP.out _ (HRd.out.below (by rw [hH]; exact Ba))).mono ?_; rintro e w1 ⟨u1, rfl, own1, b1⟩
  have Ab := Aa.below b1 Aa.lt
  have Bb := bup Ba hle b1
  have RD : Hid (Rd w1 u1 ol) := own1.rd
  have c0 := Ab.cell 0 _ rfl
  have c1 := Ab.cell 1 _ rfl
  have c2 := Ab.cell 2 _ rfl
  have c3 := Ab.cell 3 _ rfl
  have f0 := Ab.froz 0
  have f1 := Ab.froz 1
  have f2 := Ab.froz 2
  have f3 := Ab.froz 3
  have la := Ab.lt
  clear own1 b1 Aa Ba OP HRd hH
  cases q
  · have e9 := NO'.out rfl
    obtain ⟨z1, z2⟩ := ZE.out (by rw [e9]; decide)
    subst e9 z1 z2
    clear NO' YE' ZE GO
    go_wp2_with fail
    have RB := Blk.four (x0 := .int .i64 0) (x1 := .int .i64 0) (x2 := .int .i64 0) (x3 := .slice none 0 0) Ab
    have GB := below_four (x0 := .int .i64 0) (x1 := .int .i64 0) (x2 := .int .i64 0) (x3 := .slice none 0 0) Bb (Nat.le_refl H)
    generalize (((w1.setCell ⟨H, 0, none⟩ (.int .i64 0)).setCell ⟨H, 1, none⟩ (.int .i64 0)).setCell ⟨H, 2, none⟩ (.int .i64 0)).setCell ⟨H, 3, none⟩ (.slice none 0 0) = W9 at RB GB ⊢
    have q0 := RB.cell 0 _ rfl
    have q1 := RB.cell 1 _ rfl
    have q2 := RB.cell 2 _ rfl
    have q3 := RB.cell 3 _ rfl
    refine bodyPost_ret (v := .tuple #[gmV ⟨0, 0, 0⟩ (.slice none 0 0), .int .i64 9]) (by simp [results, Try.results14, go_sem, q0, q1, q2, q3]) rfl ⟨_, rfl, OwnR.nil _ _, by first | exact GB | (rw [HH.out]; exact GB)⟩
  have EE : Hid (E = doneA (rF ol).1) := YE'.out rfl
  clear NO' YE'
  go_wp2_with fail
  refine (new_any _ u1 ol BO.out RD.out).mono ?_; rintro e w2 ⟨rfl, r2, b2, z2⟩
  have Ac := Ab.below b2 Ab.lt
  have Bc := bup Bb hle b2
  obtain ⟨R, hR⟩ : ∃ R, w1.heap.size = R := ⟨_, rfl⟩
  rw [hR] at r2 z2 la
  rw [hR]
  have RR : Hid (Rdr w2 R R ⟨ol, 0, 0⟩) := r2
  have Z2 : Hid (w2.heap.size = R + 1) := z2
  clear z2 r2 b2 hR RD BO c0 c1 c2 c3 f0 f1 f2 f3 Ab Bb
  go_wp2_with fail
  generalize hV : w2.alloc (.cells #[.pointer (some ⟨R, 0, none⟩), .int .i64 0, .int .i64 0, .int .i64 0, .slice none 0 0, .int .i64 0] 58) = W3'
  obtain ⟨Pa, b3, _⟩ := boxed hV
  have Ad := Ac.below b3 Ac.lt
  have Bd := bup Bc hle b3
  have Ra : Hid (Rdr W3' R R ⟨ol, 0, 0⟩) := RR.out.below b3 RR.out.lt
  have z2 := Z2.out
  obtain ⟨P, hP⟩ : ∃ P, w2.heap.size = P := ⟨_, rfl⟩
  rw [hP] at Pa z2
  rw [hP]
  have hRP : R < P := by omega
  clear z2 Z2 hV b3 hP RR Ac Bc
  refine (ps_steps _ P).mono ?_; rintro e W0 ⟨rfl, b4⟩
  have A0 := Ad.below b4 Ad.lt
  have B0 := bup Bd hle b4
  have P0 : Blk W0 P (psC R 0 0 0 (.slice none 0 0) 0) := Pa.below b4 Pa.lt
  have R0 : Hid (Rdr W0 R R ⟨ol, 0, 0⟩) := Ra.out.below b4 Ra.out.lt
  have nb := rN_bd ol
  obtain ⟨c, hcc⟩ : ∃ c : Nat, rN ol = c := ⟨(rN ol).toNat, by omega⟩
  have CN : Hid (rN ol = (c : Int)) := hcc
  have c128 : c ≤ 128 := by omega
  have CF : Hid (rF ol = rowS (rQ ol) c) := (by unfold rF; rw [hcc, Int.toNat_natCast] : rF ol = rowS (rQ ol) c)
  have CS : Hid (c ≠ 0 → (rQ ol).e = 0) := fun hne => by
    by_cases he : (rQ ol).e = 0
    · exact he
    · have := uint_zero (m := 128) (s := rD ol) he
      have e2 : rN ol = 0 := this
      omega
  clear hcc nb Ad Bd Pa Ra b4
  go_wp2_with fail
  refine wp_loop_rounds 8 ?_
  have ix0 := index7f (stepsA P) 0 0 rfl (.func (.func 48) #[.pointer (some ⟨P, 0, none⟩)] #[]) (by omega) rfl W0
  rw [rounds_succ]
  go_wp2_with fail
  clear ix0
  refine (ps_mark _ R R P _ 0 0 0 0 _ R0.out P0 hRP).mono ?_; rintro e W1 ⟨rfl, rr, pp, kk⟩
  have R1 : Hid (Rdr W1 R R (sameS 71 ⟨ol, 0, 0⟩)) := rr
  have P1 : Blk W1 P (psC R 0 0 0 (.slice none 0 0) 0) := pp
  have A1 := A0.below kk.below (by omega)
  have B1 : Below H w W1 := B0.trans (kk.below.mono (by omega))
  clear A0 B0 R0 P0 kk rr pp
  go_wp2_with fail
  have ix1 := index7f (stepsA P) 1 1 rfl (.func (.func 49) #[.pointer (some ⟨P, 0, none⟩)] #[]) (by omega) rfl W1
  rw [rounds_succ]
  go_wp2_with fail
  clear ix1
  refine (ps_version _ R R P _ 0 0 0 0 _ R1.out P1 hRP).mono ?_; rintro e W2 ⟨rfl, rr, pp, kk⟩
  have R2 : Hid (Rdr W2 R R (rA ol)) := rr
  have P2 : Blk W2 P (psC R 0 0 0 (.slice none 0 0) 0) := pp
  have A2 := A1.below kk.below (by omega)
  have B2 : Below H w W2 := B1.trans (kk.below.mono (by omega))
  clear A1 B1 R1 P1 kk rr pp
  go_wp2_with fail
  have ix2 := index7f (stepsA P) 2 2 rfl (.func (.func 50) #[.pointer (some ⟨P, 0, none⟩)] #[]) (by omega) rfl W2
  rw [rounds_succ]
  go_wp2_with fail
  clear ix2
  refine (ps_tick _ R R P _ 0 0 0 0 _ R2.out P2 hRP).mono ?_; rintro e W3 ⟨rfl, rr, pp, kk⟩
  have R3 : Hid (Rdr W3 R R (rB ol)) := rr
  have P3 : Blk W3 P (psC R (rT ol) 0 0 (.slice none 0 0) 0) := pp
  have A3 := A2.below kk.below (by omega)
  have B3 : Below H w W3 := B2.trans (kk.below.mono (by omega))
  clear A2 B2 R2 P2 kk rr pp
  go_wp2_with fail
  have ix3 := index7f (stepsA P) 3 3 rfl (.func (.func 51) #[.pointer (some ⟨P, 0, none⟩)] #[]) (by omega) rfl W3
  rw [rounds_succ]
  go_wp2_with fail
  clear ix3
  refine (ps_time _ R R P _ (rT ol) 0 0 0 _ R3.out P3 hRP).mono ?_; rintro e W4 ⟨rfl, rr, pp, kk⟩
  have R4 : Hid (Rdr W4 R R (rC ol)) := rr
  have P4 : Blk W4 P (psC R (rT ol) (rM ol) 0 (.slice none 0 0) 0) := pp
  have A4 := A3.below kk.below (by omega)
  have B4 : Below H w W4 := B3.trans (kk.below.mono (by omega))
  clear A3 B3 R3 P3 kk rr pp
  go_wp2_with fail
  have ix4 := index7f (stepsA P) 4 4 rfl (.func (.func 52) #[.pointer (some ⟨P, 0, none⟩)] #[]) (by omega) rfl W4
  rw [rounds_succ]
  go_wp2_with fail
  clear ix4
  refine (ps_base _ R R P _ (rT ol) (rM ol) 0 0 _ R4.out P4 hRP (rT_bd ol).1 (rT_bd ol).2).mono ?_; rintro e W5 ⟨rfl, rr, pp, kk⟩
  have R5 : Hid (Rdr W5 R R (rD ol)) := rr
  have P5 : Blk W5 P (psC R (rT ol) (rM ol) (rP ol) (.slice none 0 0) 0) := pp
  have A5 := A4.below kk.below (by omega)
  have B5 : Below H w W5 := B4.trans (kk.below.mono (by omega))
  clear A4 B4 R4 P4 kk rr pp
  go_wp2_with fail
  have ix5 := index7f (stepsA P) 5 5 rfl (.func (.func 53) #[.pointer (some ⟨P, 0, none⟩)] #[]) (by omega) rfl W5
  rw [rounds_succ]
  go_wp2_with fail
  clear ix5
  refine (ps_size _ R R P _ (rT ol) (rM ol) (rP ol) 0 _ R5.out P5 hRP).mono ?_; rintro e W6 ⟨rfl, rr, pp, kk⟩
  have R6 : Hid (Rdr W6 R R (rQ ol)) := rr
  have P6 : Blk W6 P (psC R (rT ol) (rM ol) (rP ol) (.slice none 0 0) (rN ol)) := pp
  have A6 := A5.below kk.below (by omega)
  have B6 : Below H w W6 := B5.trans (kk.below.mono (by omega))
  clear A5 B5 R5 P5 kk rr pp
  rw [CN.out] at P6
  go_wp2_with fail
  have ix6 := index7f (stepsA P) 6 6 rfl (.func (.func 54) #[.pointer (some ⟨P, 0, none⟩)] #[]) (by omega) rfl W6
  rw [rounds_succ]
  go_wp2_with fail
  clear ix6
  refine (ps_records _ R R P _ (rT ol) (rM ol) (rP ol) c R6.out P6 hRP c128 CS.out).mono ?_; rintro e W7 ⟨rfl, rr, ⟨vv, pp, oo⟩, kk⟩
  have R7 : Hid (Rdr W7 R R (rF ol).1) := by rw [CF.out]; exact rr
  have O7 : Hid (OwnR W7 (P + 1) vv (rF ol).2) := by rw [CF.out]; exact oo
  obtain ⟨ao7, cap7, e7⟩ := oo.form
  have A7 := A6.below kk (by omega)
  have B7 : Below H w W7 := B6.trans (kk.mono (by omega))
  clear A6 B6 R6 P6 kk rr oo
  go_wp2_with fail
  subst e7
  have x0 := pp.cell 0 _ rfl
  have x1 := pp.cell 1 _ rfl
  have x2 := pp.cell 2 _ rfl
  have x3 := pp.cell 3 _ rfl
  have x4 := pp.cell 4 _ rfl
  have lp := pp.lt
  have c0 := A7.cell 0 _ rfl
  have c1 := A7.cell 1 _ rfl
  have c2 := A7.cell 2 _ rfl
  have c3 := A7.cell 3 _ rfl
  have f0 := A7.froz 0
  have f1 := A7.froz 1
  have f2 := A7.froz 2
  have f3 := A7.froz 3
  have la7 := A7.lt
  rw [rounds_succ]
  go_wp2_with fail
  refine (done_any _ R R _ R7.out).mono ?_; rintro e W8 ⟨rfl, rfl⟩
  rw [← EE.out]
  by_cases hz : E = 0
  · obtain ⟨z1, z3⟩ := GO.out hz
    subst hz z1
    have ZL : Hid (L = (rF ol).2) := z3
    clear GO ZE EE z3 CF CS CN
    obtain ⟨nn, hnn⟩ : ∃ n, (rowS (rQ ol) c).2.length = n := ⟨_, rfl⟩
    rw [hnn] at x4 O7 pp
    clear hnn
    go_wp2_with fail
    have RB := Blk.four (x0 := .int .i64 (rT ol)) (x1 := .int .i64 (rM ol)) (x2 := .int .i64 (rP ol)) (x3 := .slice ao7 nn cap7) A7
    have GB := below_four (x0 := .int .i64 (rT ol)) (x1 := .int .i64 (rM ol)) (x2 := .int .i64 (rP ol)) (x3 := .slice ao7 nn cap7) B7 (Nat.le_refl H)
    have OB : Hid (OwnR ((((W8.setCell ⟨H, 0, none⟩ (.int .i64 (rT ol))).setCell ⟨H, 1, none⟩ (.int .i64 (rM ol))).setCell ⟨H, 2, none⟩ (.int .i64 (rP ol))).setCell ⟨H, 3, none⟩ (.slice ao7 nn cap7)) (P + 1) (.slice ao7 nn cap7) (rF ol).2) := ownR_four O7.out (by omega)
    generalize (((W8.setCell ⟨H, 0, none⟩ (.int .i64 (rT ol))).setCell ⟨H, 1, none⟩ (.int .i64 (rM ol))).setCell ⟨H, 2, none⟩ (.int .i64 (rP ol))).setCell ⟨H, 3, none⟩ (.slice ao7 nn cap7) = W9 at RB GB OB ⊢
    have q0 := RB.cell 0 _ rfl
    have q1 := RB.cell 1 _ rfl
    have q2 := RB.cell 2 _ rfl
    have q3 := RB.cell 3 _ rfl
    refine bodyPost_ret (v := .tuple #[gmV ⟨rT ol, rM ol, rP ol⟩ (.slice ao7 nn cap7), .int .i64 0]) (by simp [results, Try.results14, go_sem, q0, q1, q2, q3]) rfl ⟨_, rfl, by rw [ZL.out, HH.out]; exact OB.out.mono (by omega), by first | exact GB | (rw [HH.out]; exact GB)⟩
  · obtain ⟨z1, z3⟩ := ZE.out hz
    have heq : (E == 0) = false := by simp [hz]
    subst z1 z3
    clear GO ZE EE CF CS CN x0 x1 x2 x3 x4
    go_wp2_with fail
    have RB := Blk.four (x0 := .int .i64 0) (x1 := .int .i64 0) (x2 := .int .i64 0) (x3 := .slice none 0 0) A7
    have GB := below_four (x0 := .int .i64 0) (x1 := .int .i64 0) (x2 := .int .i64 0) (x3 := .slice none 0 0) B7 (Nat.le_refl H)
    generalize (((W8.setCell ⟨H, 0, none⟩ (.int .i64 0)).setCell ⟨H, 1, none⟩ (.int .i64 0)).setCell ⟨H, 2, none⟩ (.int .i64 0)).setCell ⟨H, 3, none⟩ (.slice none 0 0) = W9 at RB GB ⊢
    have q0 := RB.cell 0 _ rfl
    have q1 := RB.cell 1 _ rfl
    have q2 := RB.cell 2 _ rfl
    have q3 := RB.cell 3 _ rfl
    refine bodyPost_ret (v := .tuple #[gmV ⟨0, 0, 0⟩ (.slice none 0 0), .int .i64 E]) (by simp [results, Try.results14, go_sem, q0, q1, q2, q3]) rfl ⟨_, rfl, OwnR.nil _ _, by first | exact GB | (rw [HH.out]; exact GB)⟩
end Go.Proofs.Ytlhfelelgkkblaa

namespace Go.Proofs.Ytlhfelelgkkblaa
open Go.RowKit
set_option linter.unusedVariables false

theorem chain_mem : ∀ (L : List Rc) (last : Int), chainR last L → ∀ r ∈ L, r.ok
  | [], _, _, r, h => absurd h (by simp)
  | x :: L, last, ⟨h1, _, h3⟩, r, h => by
    rcases List.mem_cons.1 h with e | e
    · rw [e]; exact h1
    · exact chain_mem L x.i h3 r e
theorem chain_at {L : List Rc} {last : Int} (h : chainR last L) : ∀ i, i < L.length → (L.getD i noRec).ok := by
  intro i hi
  refine chain_mem L last h _ ?_
  have : L.getD i noRec = L[i] := by simp [List.getD, hi]
  rw [this]
  exact List.getElem_mem hi
theorem op_opened {x : List Int} (h : openB x = true) : 4 ≤ x.length ∧ (opened x).length + 4 = x.length ∧ sealed (opened x) = x := by
  have h4 : 4 ≤ x.length := by
    by_cases hf : x.length < 4
    · rw [open_few hf] at h; exact absurd h (by simp)
    · omega
  have e := opened_yes (m := x.length - 4) (by omega) h
  refine ⟨h4, by rw [e, List.length_take]; omega, ?_⟩
  rw [e]
  exact (open_app (by omega)).1 h
/-- A datagram that is read may be, and is written as those bytes. -/
theorem one_gram {x : List Int} (hb : Bytes x) (h : rgE x = 0) :
    (rgG x).ok ∧ (∀ i, i < (rgL x).length → ((rgL x).getD i noRec).ok) ∧ gmE (rgG x) (fun i => (rgL x).getD i noRec) (rgL x).length = 0 ∧ wrtE (rgG x) (fun i => (rgL x).getD i noRec) (rgL x).length = 0 ∧ wrtB (rgG x) (fun i => (rgL x).getD i noRec) (rgL x).length = x := by
  obtain ⟨h1, h2, h3⟩ := rgE_zero h
  have eG : rgG x = ⟨rT (opened x), rM (opened x), rP (opened x)⟩ := by unfold rgG; rw [if_pos h]
  have eL : rgL x = (rF (opened x)).2 := by unfold rgL; rw [if_pos h]
  have hbo : Bytes (opened x) := by unfold opened; rw [if_pos h2]; exact hb.take _
  obtain ⟨o1, o2, o3⟩ := op_opened h2
  obtain ⟨e1, e2, e3⟩ := op_one hbo h3
  rw [← eG, ← eL] at e1 e2
  rw [← eL] at e3
  have ho := hed_ok e2
  have gb : gmB (rgG x) (fun i => (rgL x).getD i noRec) (rgL x).length = opened x := by
    unfold gmB
    rw [pre_getD]
    exact e1.symm
  have ge : gmE (rgG x) (fun i => (rgL x).getD i noRec) (rgL x).length = 0 := by
    unfold gmE
    rw [if_pos e2, pre_getD]
    exact fir_chain _ _ e3
  have we : wrtE (rgG x) (fun i => (rgL x).getD i noRec) (rgL x).length = 0 := by
    unfold wrtE
    rw [if_pos ge, gb, if_neg (by omega)]
  refine ⟨⟨by unfold S64; omega, by unfold S64; omega, by unfold S64; omega⟩, chain_at e3, ge, we, ?_⟩
  unfold wrtB
  rw [if_pos we, gb, o3]
/-- What is written is read. -/
theorem back_gram {g : Gm} {A : Nat → Rc} {n : Nat} (ok : ∀ i, i < n → (A i).ok) (h : wrtE g A n = 0) :
    rgE (wrtB g A n) = 0 ∧ rgG (wrtB g A n) = g ∧ rgL (wrtB g A n) = pre A n ∧ (wrtB g A n).length = (gmB g A n).length + 4 ∧ wrtB g A n = sealed (gmB g A n) ∧ 6 ≤ (gmB g A n).length := by
  obtain ⟨h1, h2⟩ := wrt_ok h
  have h3 := gm_head h1
  have hc := gm_chain ok h1
  have e : wrtB g A n = sealed (gmB g A n) := by unfold wrtB; rw [if_pos h]
  have eo : opened (wrtB g A n) = gmB g A n := by rw [e]; exact sealed_opened _
  have ob : openB (wrtB g A n) = true := by rw [e]; exact sealed_open _
  have el : (wrtB g A n).length = (gmB g A n).length + 4 := by rw [e]; exact sealed_len _
  have hL : (pre A n).length = n := pre_len A n
  have b := op_back (g := g) (L := pre A n) (by rw [hL]; exact h3) hc
  rw [hL] at b
  have eg : hedB g n ++ encR (-1) (pre A n) = gmB g A n := rfl
  rw [eg] at b
  obtain ⟨b1, b2, b3, b4, b5⟩ := b
  have re : rgE (wrtB g A n) = 0 := by
    unfold rgE
    rw [if_neg (by omega), if_pos ob, eo]
    exact b1
  refine ⟨re, ?_, ?_, el, e, ?_⟩
  · unfold rgG
    rw [if_pos re, eo, b2, b3, b4]
  · unfold rgL
    rw [if_pos re, eo, b5]
  · have p1 := put_pos g.t
    have p2 := put_pos (zig g.m)
    have p3 := put_pos (bkI g)
    have p4 := put_pos (n : Int)
    unfold gmB hedB
    simp only [List.length_append, List.length_cons, List.length_nil]
    omega
/-- Without its last byte it isn't. -/
theorem cut_gram {g : Gm} {A : Nat → Rc} {n : Nat} (ok : ∀ i, i < n → (A i).ok) (h : wrtE g A n = 0) : rgE ((wrtB g A n).take ((wrtB g A n).length - 1)) ≠ 0 := by
  intro hz
  obtain ⟨b1, _, _, el, es, e6⟩ := back_gram ok h
  obtain ⟨h1, h2⟩ := wrt_ok h
  have hb := (gmB_ok ok h1).1
  obtain ⟨z1, z2, z3⟩ := rgE_zero hz
  obtain ⟨y1, y2, y3⟩ := rgE_zero b1
  have eo : opened (wrtB g A n) = gmB g A n := by rw [es]; exact sealed_opened _
  rw [eo] at y3
  obtain ⟨M, hM⟩ : ∃ M, (gmB g A n).length = M + 1 := ⟨(gmB g A n).length - 1, by omega⟩
  have lt : ((wrtB g A n).take ((wrtB g A n).length - 1)).length = M + 4 := by rw [List.length_take]; omega
  have ec : opened ((wrtB g A n).take ((wrtB g A n).length - 1)) = (gmB g A n).take M := by
    rw [opened_yes lt z2, List.take_take, es]
    unfold sealed
    rw [List.take_append_of_le_length (by rw [List.length_append] ; simp [four] at * ; omega)]
    congr 1
    rw [List.length_append]
    simp [four]
    omega
  rw [ec] at z3
  have split : gmB g A n = (gmB g A n).take M ++ [(gmB g A n).getD M 0] := by
    have := own_split (gmB g A n) M (by omega)
    have d : (gmB g A n).drop (M + 1) = [] := List.drop_eq_nil_of_le (by omega)
    rw [d] at this
    exact this
  have := op_less (c := (gmB g A n).getD M 0) (hb.take M) z3
  rw [← split, y3] at this
  omega
/-- With a byte turned it isn't opened. -/
theorem turned_gram {g : Gm} {A : Nat → Rc} {n : Nat} (ok : ∀ i, i < n → (A i).ok) (h : wrtE g A n = 0) {j : Nat} (hj : j < (wrtB g A n).length) {x : Int} (hx : 0 ≤ x ∧ x ≤ 255) (hne : x ≠ (wrtB g A n).getD j 0) : rgE ((wrtB g A n).set j x) = 9 := by
  obtain ⟨b1, _, _, el, es, e6⟩ := back_gram ok h
  obtain ⟨h1, h2⟩ := wrt_ok h
  have hb := (gmB_ok ok h1).1
  have t := turned_no hb (j := j) (by omega) hx (by rw [← es]; exact hne)
  unfold rgE
  rw [if_neg (by rw [List.length_set]; omega), es, t]
  simp
end Go.Proofs.Ytlhfelelgkkblaa

namespace Go.Proofs.Ytlhfelelgkkblaa
open Go.RowKit
set_option linter.unusedVariables false
set_option maxRecDepth 8000
attribute [local go_sem ↓] eqR_run

theorem below_drewN {B : Nat} {a w : World} (h : Below B a w) (N : Nat) : Below B a (w.drewN N) := ⟨h.os, h.tape, h.output, h.size, h.block⟩
theorem RdR.drewN {w : World} {v : Value} {n : Nat} {A : Nat → Rc} (h : RdR w v n A) (N : Nat) : RdR (w.drewN N) v n A := h
theorem rdR_at {w : World} {ao : Option Addr} {n cap : Nat} {A : Nat → Rc} (h : RdR w (.slice ao n cap) n A) {k : Nat} (hk : k < n) : ∃ b o, ao = some ⟨b, o, none⟩ ∧ b < w.heap.size ∧ ∀ j x, (recC (A k))[j]? = some x → w.cell? ⟨b, o + k * 9 + j, none⟩ = some x := by
  obtain ⟨ao', cap', e, _, _, h3⟩ := h
  injection e with e1 e2 e3
  subst e1 e3
  obtain ⟨b', o, rfl, hcell⟩ := h3.resolve_left (by omega)
  exact ⟨b', o, rfl, World.block_lt_of_cell? w _ (hcell k hk 0 _ rfl), hcell k hk⟩
set_option maxHeartbeats 4000000 in
theorem dg_same (w : World) (g : Gm) (v v' : Value) (n : Nat) (A : Nat → Rc) (hv : RdR w v n A) (hv' : RdR w v' n A) :
    Calls Try.prog 17 #[gmV g v, gmV g v'] w fun e w' => e = .returned (.bool true) ∧ Below w.heap.size w w' := by
  have HR : Hid (RdR w v n A) := hv
  have HR2 : Hid (RdR w v' n A) := hv'
  obtain ⟨ao, cap, rfl, hc, hm, _⟩ := hv
  obtain ⟨ao2, cap2, rfl, hc2, hm2, _⟩ := hv'
  obtain ⟨t, m, b⟩ := g
  go_enter Try.func17, Try.ntmps17
  go_wp2_with fail
  generalize hW : (w.alloc (.cells #[.int .i64 t, .int .i64 m, .int .i64 b, .slice ao n cap] 24)).alloc (.cells #[.int .i64 t, .int .i64 m, .int .i64 b, .slice ao2 n cap2] 24) = W
  obtain ⟨A0, A1, b0⟩ := boxed2 hW
  clear hW
  have R0 : Hid (RdR W (.slice ao n cap) n A) := HR.out.below b0
  have R1 : Hid (RdR W (.slice ao2 n cap2) n A) := HR2.out.below b0
  obtain ⟨H, hH⟩ : ∃ H, w.heap.size = H := ⟨_, rfl⟩
  have HH : Hid (w.heap.size = H) := hH
  rw [hH] at A0 A1 b0
  rw [hH]
  clear hH HR HR2
  go_loopw [5] (fun i wr => ∃ k : Nat, k ≤ n ∧ i = .int .i64 k ∧ Blk wr H [.int .i64 t, .int .i64 m, .int .i64 b, .slice ao n cap] ∧ Blk wr (H + 1) [.int .i64 t, .int .i64 m, .int .i64 b, .slice ao2 n cap2] ∧ RdR wr (.slice ao n cap) n A ∧ RdR wr (.slice ao2 n cap2) n A ∧ Below H w wr) (fun i _ => n - (intOf i).toNat)
  case atStart => exact ⟨0, by omega, rfl, A0, A1, R0.out, R1.out, b0⟩
  case round =>
    obtain ⟨k, hk, rfl, q1, q2, q3, q4, q5⟩ := hrel
    have Q3 : Hid (RdR wr (.slice ao n cap) n A) := q3
    have Q4 : Hid (RdR wr (.slice ao2 n cap2) n A) := q4
    have y3 := q1.cell 3 _ rfl
    have z3 := q2.cell 3 _ rfl
    have ly := q1.lt
    have lz := q2.lt
    by_cases hlt : k < n
    · obtain ⟨g1, o1, e1, l1, c1⟩ := rdR_at q3 hlt
      obtain ⟨g2, o2, e2, l2, c2⟩ := rdR_at q4 hlt
      clear q3 q4
      obtain ⟨r, hr⟩ : ∃ r, A k = r := ⟨_, rfl⟩
      rw [hr] at c1 c2
      clear hr
      subst e1 e2
      have eq : recB r r = true := recB_same r
      obtain ⟨r0, r1, r2, r3, r4, r5, r6, r7, r8⟩ := r
      have x0 := c1 0 _ rfl
      have x1 := c1 1 _ rfl
      have x2 := c1 2 _ rfl
      have x3 := c1 3 _ rfl
      have x4 := c1 4 _ rfl
      have x5 := c1 5 _ rfl
      have x6 := c1 6 _ rfl
      have x7 := c1 7 _ rfl
      have x8 := c1 8 _ rfl
      have u0 := c2 0 _ rfl
      have u1 := c2 1 _ rfl
      have u2 := c2 2 _ rfl
      have u3 := c2 3 _ rfl
      have u4 := c2 4 _ rfl
      have u5 := c2 5 _ rfl
      have u6 := c2 6 _ rfl
      have u7 := c2 7 _ rfl
      have u8 := c2 8 _ rfl
      simp only [Nat.add_zero] at x0 u0
      clear c1 c2
      go_wp2_with fail
      go_quiet (fail)
      go_wp2_with fail
      go_roundw
      case rel => exact ⟨k + 1, by omega, by go_num, q1.drewN _, q2.drewN _, Q3.out, Q4.out, below_drewN q5 _⟩
      case measure => simp [intOf]; omega
    · obtain rfl : k = n := by omega
      clear q3 q4
      go_wp2_with fail
      go_ret
      exact ⟨rfl, HH.out ▸ q5⟩
end Go.Proofs.Ytlhfelelgkkblaa
