/-
  Texts Dl13, Dl14, Dl15, Dl16, Dl17, Fr10 in one.
-/
import Derived.Deep.RegionHeld3
import Derived.Deep.Strs
import Derived.Test.YtlpdhglibgnkoaaGreatP23
namespace Go.Proofs.YtlpdhglibgnkoaaGreat
open Go.RowKit
set_option linter.unusedVariables false
set_option maxRecDepth 8000

def apT (t m : Int) (L : List En) (g : Gm) (A : Nat → Rc) (n : Nat) : Int := if aplE t m L g A n = 0 then g.t else 0
def apM (t m : Int) (L : List En) (g : Gm) (A : Nat → Rc) (n : Nat) : Int := if aplE t m L g A n = 0 then g.m else 0
theorem apl_zero {t m : Int} {L : List En} {g : Gm} {A : Nat → Rc} {n : Nat} (h : aplE t m L g A n ≠ 0) : apT t m L g A n = 0 ∧ apM t m L g A n = 0 ∧ aplL t m L g A n = [] :=
  ⟨by unfold apT; rw [if_neg h], by unfold apM; rw [if_neg h], by unfold aplL; rw [if_neg h]⟩
theorem all_app : ∀ (R S : List Rc) (M : List En), doAll M (R ++ S) = match doAll M R with
    | none => none
    | some N => doAll N S
  | [], S, M => rfl
  | r :: R, S, M => by
    show (match doR M r with | none => none | some M' => doAll M' (R ++ S)) = match (match doR M r with | none => none | some M' => doAll M' R) with
      | none => none
      | some N => doAll N S
    cases doR M r with
    | none => rfl
    | some M' => exact all_app R S M'
theorem all_steps (M : List En) (A : Nat → Rc) (n : Nat) :
    (∀ k, k < n → ∀ N, doAll M (pre A k) = some N → doE N (A k) = 0 → ∃ N', doR N (A k) = some N' ∧ doAll M (pre A (k + 1)) = some N') ∧
    (∀ k, k < n → ∀ N, doAll M (pre A k) = some N → doE N (A k) ≠ 0 → doE N (A k) = 15 ∧ doAll M (pre A n) = none) := by
  refine ⟨fun k hk N h he => ?_, fun k hk N h he => ?_⟩
  · cases hd : doR N (A k) with
    | none => unfold doE at he; rw [hd] at he; simp at he
    | some N' =>
      refine ⟨N', rfl, ?_⟩
      rw [pre_succ, all_app, h]
      show (match doR N (A k) with | none => none | some M' => doAll M' []) = _
      rw [hd]; rfl
  · cases hd : doR N (A k) with
    | some N' => unfold doE at he; rw [hd] at he; simp at he
    | none =>
      refine ⟨by unfold doE; rw [hd], ?_⟩
      obtain ⟨R, e⟩ := pre_split A hk
      rw [e, all_app, h]
      show (match doR N (A k) with | none => none | some M' => doAll M' R) = _
      rw [hd]
theorem all_rise : ∀ (R : List Rc) {M N : List En}, rise (-1) M → (∀ r ∈ R, chk r = 0) → doAll M R = some N → rise (-1) N
  | [], M, N, hm, _, h => by cases h; exact hm
  | r :: R, M, N, hm, hc, h => by
    have h' : (match doR M r with | none => none | some M' => doAll M' R) = some N := h
    cases hd : doR M r with
    | none => rw [hd] at h'; cases h'
    | some M' => rw [hd] at h'; exact all_rise R (do_rise hm (hc r (by simp)) hd) (fun s hs => hc s (by simp [hs])) h'
/-- The error and what is made, once all that comes ahead is in order. -/
theorem apl_end {t m : Int} {L : List En} {g : Gm} {A : Nat → Rc} {n : Nat} (h0 : gmE g A n = 0) (h1 : ¬ (g.b ≠ -1 ∧ snE t m L ≠ 0)) (h2 : ¬ (g.b ≠ -1 ∧ t ≠ g.b)) (hr : rise (-1) (wasL g.b L)) (ha : asc (-1) (pre A n)) :
    (doAll (wasL g.b L) (pre A n) = none → aplE t m L g A n = 15) ∧ (∀ M, doAll (wasL g.b L) (pre A n) = some M → 64 < M.length → aplE t m L g A n = 4) ∧
    (∀ M, doAll (wasL g.b L) (pre A n) = some M → ¬ 64 < M.length → aplE t m L g A n = 0 ∧ apT t m L g A n = g.t ∧ apM t m L g A n = g.m ∧ aplL t m L g A n = M) := by
  have e := apl_all _ _ _ hr ha
  have hE : aplE t m L g A n = match apl (wasL g.b L) (pre A n) with
       | none => 15
       | some M => if 64 < M.length then 4 else 0 := by unfold aplE; rw [if_pos h0, if_neg h1, if_neg h2]; cases apl (wasL g.b L) (pre A n) <;> rfl
  rw [e] at hE
  refine ⟨fun h => by rw [hE, h], fun M h hl => by rw [hE, h]; exact if_pos hl, fun M h hl => ?_⟩
  have e0 : aplE t m L g A n = 0 := by rw [hE, h]; exact if_neg hl
  refine ⟨e0, by unfold apT; rw [if_pos e0], by unfold apM; rw [if_pos e0], ?_⟩
  unfold aplL; rw [if_pos e0, e, h]; rfl
theorem gm_asc {g : Gm} {A : Nat → Rc} {n : Nat} (h : gmE g A n = 0) : asc (-1) (pre A n) := by
  have h1 := gm_head h
  unfold gmE at h
  rw [if_pos h1] at h
  exact fir_asc h
theorem asc_at {A : Nat → Rc} {n k : Nat} (h : asc (-1) (pre A n)) (hk : k < n) : chk (A k) = 0 := (asc_lt h (A k) (by unfold pre; exact List.mem_map.2 ⟨k, by simpa using hk, rfl⟩)).2.2
theorem blk_three {w : World} {b : Nat} {c0 c1 c2 x0 x1 x2 : Value} (h : Blk w b [c0, c1, c2]) : Blk (((w.setCell ⟨b, 0, none⟩ x0).setCell ⟨b, 1, none⟩ x1).setCell ⟨b, 2, none⟩ x2) b [x0, x1, x2] :=
  ((h.set 0 x0 (by simp)).set 1 x1 (by simp)).set 2 x2 (by simp)
theorem below_three {B : Nat} {a w : World} {b : Nat} {x0 x1 x2 : Value} (h : Below B a w) (hb : B ≤ b) : Below B a (((w.setCell ⟨b, 0, none⟩ x0).setCell ⟨b, 1, none⟩ x1).setCell ⟨b, 2, none⟩ x2) :=
  ((h.setCell (p := ⟨b, 0, none⟩) hb _).setCell (p := ⟨b, 1, none⟩) hb _).setCell (p := ⟨b, 2, none⟩) hb _
theorem OwnE.set {w : World} {B b o : Nat} {u x : Value} {L : List En} (h : OwnE w B u L) (hb : b < B) : OwnE (w.setCell ⟨b, o, none⟩ x) B u L := by
  refine World.ownsRow.kept h (grownBy_setCellAny w b o x) ?_
  by_cases e : u.ownBlock = none
  · exact Or.inl e
  · exact Or.inr (fun e' => by have := (h.lt b e').1; omega)
theorem OwnE.nil' (w : World) (B : Nat) : OwnE w B (.slice none 0 0) [] := World.ownsRow_nil w B _ _
section
variable {w : World} {ops : Array Oper} {rest : List Oper} {o : Oper} {a : Act} {Q : Exit → Act → World → Prop}
theorem lenE_is (hg : o.guard = none) (m : Operand) (hop : o.op = Op.call { callee := Callee.builtin Builtin.len, args := #[m], argTypes := #[104] }) (b : Nat) (M : List En) (hm : a.eval m = .map (some b)) (h : MapE w b M) (c : Nat) (hc : M.length = c)
    (hK : wpList Tryz.prog ops Q rest (a.put o.dst (.int .i64 (c : Nat))) w) : wpList Tryz.prog ops Q (o :: rest) a w := by
  subst hc
  exact lenE_wp hg m hop b M hm h hK
end
set_option maxHeartbeats 4000000 in
theorem dl_apply (w : World) (t m : Int) (va : Value) (na : Nat) (Aa : Nat → En) (hva : RdE w va na Aa) (g : Gm) (ok : g.ok) (v : Value) (n : Nat) (A : Nat → Rc) (hA : ∀ i, i < n → (A i).ok) (hv : RdR w v n A) :
    Calls Tryz.prog 33 #[snV t m va, gmV g v] w fun e w' => ∃ u, e = .returned (.tuple #[snV (apT t m (preE Aa na) g A n) (apM t m (preE Aa na) g A n) u, .int .i64 (aplE t m (preE Aa na) g A n)]) ∧ OwnE w' w.heap.size u (aplL t m (preE Aa na) g A n) ∧ Below w.heap.size w w' := by
  have HR : Hid (RdR w v n A) := hv
  have HRA : Hid (RdE w va na Aa) := hva
  have HG : Hid (∀ w', Below w.heap.size w w' → Calls Tryz.prog 48 #[gmV g v] w' fun e w'' => e = .returned (.int .i64 (gmE g A n)) ∧ Below w'.heap.size w' w'') := fun w' h => gm_checks w' g ok v n A hA (hv.below h)
  have HC : Hid (∀ w', Below w.heap.size w w' → Calls Tryz.prog 49 #[snV t m va] w' fun e w'' => e = .returned (.int .i64 (snE t m (preE Aa na))) ∧ Below w'.heap.size w' w'') := fun w' h => sn_check w' t m va na Aa (hva.below h)
  have HZ : Hid (aplE t m (preE Aa na) g A n ≠ 0 → apT t m (preE Aa na) g A n = 0 ∧ apM t m (preE Aa na) g A n = 0 ∧ aplL t m (preE Aa na) g A n = []) := apl_zero
  have H1 : Hid (gmE g A n ≠ 0 → aplE t m (preE Aa na) g A n = gmE g A n) := fun h => by unfold aplE; rw [if_neg h]
  have H2 : Hid (gmE g A n = 0 → g.b ≠ -1 → snE t m (preE Aa na) ≠ 0 → aplE t m (preE Aa na) g A n = snE t m (preE Aa na)) := fun h h' h2 => by unfold aplE; rw [if_pos h, if_pos ⟨h', h2⟩]
  have H3 : Hid (gmE g A n = 0 → g.b ≠ -1 → snE t m (preE Aa na) = 0 → t ≠ g.b → aplE t m (preE Aa na) g A n = 14) := fun h h' h2 h3 => by unfold aplE; rw [if_pos h, if_neg (fun q => q.2 h2), if_pos ⟨h', h3⟩]
  have HF : Hid (gmE g A n = 0 → (g.b ≠ -1 → snE t m (preE Aa na) = 0 ∧ t = g.b) → ∀ M0, wasL g.b (preE Aa na) = M0 → rise (-1) M0 → ((doAll M0 (pre A n) = none → aplE t m (preE Aa na) g A n = 15) ∧ (∀ M, doAll M0 (pre A n) = some M → 64 < M.length → aplE t m (preE Aa na) g A n = 4) ∧
    (∀ M, doAll M0 (pre A n) = some M → ¬ 64 < M.length → aplE t m (preE Aa na) g A n = 0 ∧ apT t m (preE Aa na) g A n = g.t ∧ apM t m (preE Aa na) g A n = g.m ∧ aplL t m (preE Aa na) g A n = M))) := fun h h' M0 e hr => by
    subst e
    exact apl_end h (fun q => q.2 (h' q.1).1) (fun q => q.2 (h' q.1).2) hr (gm_asc h)
  have CK0 : Hid (gmE g A n = 0 → ∀ k, k < n → chk (A k) = 0) := fun h k hk => asc_at (gm_asc h) hk
  have HSR : Hid (snE t m (preE Aa na) = 0 → rise (-1) (preE Aa na)) := sn_rise
  have WN : Hid (g.b = -1 → wasL g.b (preE Aa na) = []) := fun h => by unfold wasL; rw [if_pos h]
  have WY : Hid (g.b ≠ -1 → wasL g.b (preE Aa na) = preE Aa na) := fun h => by unfold wasL; rw [if_neg h]
  obtain ⟨ge, hge⟩ : ∃ s, gmE g A n = s := ⟨_, rfl⟩
  obtain ⟨se, hse⟩ : ∃ s, snE t m (preE Aa na) = s := ⟨_, rfl⟩
  obtain ⟨E, hE⟩ : ∃ E, aplE t m (preE Aa na) g A n = E := ⟨_, rfl⟩
  obtain ⟨RT, hT⟩ : ∃ E, apT t m (preE Aa na) g A n = E := ⟨_, rfl⟩
  obtain ⟨RM, hM⟩ : ∃ E, apM t m (preE Aa na) g A n = E := ⟨_, rfl⟩
  obtain ⟨TL, hL⟩ : ∃ E, aplL t m (preE Aa na) g A n = E := ⟨_, rfl⟩
  rw [hE, hT, hM, hL] at HZ
  rw [hge, hE] at H1
  rw [hge, hse, hE] at H2 H3
  rw [hge, hse, hE, hT, hM, hL] at HF
  rw [hge] at HG CK0
  rw [hse] at HC HSR
  rw [hE, hT, hM, hL]
  clear hge hse hE hT hM hL hv hva hA ok
  obtain ⟨g0, g1, g2⟩ := g
  simp only at H2 H3 HF WN WY
  obtain ⟨ao, cap, e0, hc, hm, _⟩ := HR.out
  subst e0
  obtain ⟨aa, ca, e0, hca, hma, _⟩ := HRA.out
  subst e0
  go_enter Tryz.func33, Tryz.ntmps33
  go_wp2_with fail
  generalize hW : ((w.alloc (.cells #[.int .i64 t, .int .i64 m, .slice aa na ca] 45)).alloc (.cells #[.int .i64 g0, .int .i64 g1, .int .i64 g2, .slice ao n cap] 61)).alloc (.cells #[.int .i64 0, .int .i64 0, .slice none 0 0] 45) = W
  obtain ⟨X0, G0, S0, b0, -⟩ := boxed3 hW
  obtain ⟨H, hH⟩ : ∃ H, w.heap.size = H := ⟨_, rfl⟩
  have HH : Hid (w.heap.size = H) := hH
  clear hW
  refine (HG.out _ b0).mono ?_; rintro e w1 ⟨rfl, b1⟩
  rw [hH] at X0 G0 S0 b0
  rw [hH]
  have X1 := X0.below b1 X0.lt
  have G1 := G0.below b1 G0.lt
  have S1' := S0.below b1 S0.lt
  have B1 : Below H w w1 := bup b0 (Nat.le_of_eq hH.symm) b1
  clear hH HG X0 G0 S0 b0 b1
  by_cases hz : ge = 0
  · subst hz
    have CK : Hid (∀ k, k < n → chk (A k) = 0) := CK0.out (by trivial)
    clear H1 CK0
    have y2 := G1.cell 2 _ rfl
    have lg := G1.lt
    by_cases hb : g2 = -1
    · subst hb
      have f0 := HF.out (by trivial) (fun h => absurd rfl h) [] (WN.out rfl) trivial
      obtain ⟨f1, f2, f3⟩ := f0
      obtain ⟨s1, s2⟩ := all_steps [] A n
      have HBY' : ∀ w', Below w.heap.size w w' → Calls Tryz.prog 50 #[.slice none 0 0] w' fun e w'' => e = .returned (.map (some w'.heap.size)) ∧ MapE w'' w'.heap.size [] ∧ Below w'.heap.size w' w'' := fun w' h => dl_byId w' (.slice none 0 0) 0 (fun _ => noEnt) (RdE.none _) trivial
      obtain ⟨M0, hM0⟩ : ∃ M0 : List En, [] = M0 := ⟨_, rfl⟩
      rw [hM0] at f1 f2 f3 s1 s2 HBY'
      have F1 : Hid (doAll M0 (pre A n) = none → E = 15) := f1
      have F2 : Hid (∀ M, doAll M0 (pre A n) = some M → 64 < M.length → E = 4) := f2
      have F3 : Hid (∀ M, doAll M0 (pre A n) = some M → ¬ 64 < M.length → E = 0 ∧ RT = g0 ∧ RM = g1 ∧ TL = M) := f3
      have S1 : Hid (∀ k, k < n → ∀ N, doAll M0 (pre A k) = some N → doE N (A k) = 0 → ∃ N', doR N (A k) = some N' ∧ doAll M0 (pre A (k + 1)) = some N') := s1
      have S2 : Hid (∀ k, k < n → ∀ N, doAll M0 (pre A k) = some N → doE N (A k) ≠ 0 → doE N (A k) = 15 ∧ doAll M0 (pre A n) = none) := s2
      have HBY : Hid (∀ w', Below w.heap.size w w' → Calls Tryz.prog 50 #[.slice none 0 0] w' fun e w'' => e = .returned (.map (some w'.heap.size)) ∧ MapE w'' w'.heap.size M0 ∧ Below w'.heap.size w' w'') := HBY'
      have G5 := G1
      have S5 := S1'
      have B5 := B1
      clear f1 f2 f3 s1 s2 hM0 HBY' H2 H3 HF HSR WN WY HC X1 G1 S1' B1
      go_wp2_with fail
      clear y2 lg
      refine (HBY.out _ (by rw [HH.out]; exact B5)).mono ?_; rintro e w6 ⟨rfl, m6, b6⟩
      obtain ⟨K, hK⟩ : ∃ K, w1.heap.size = K := ⟨_, rfl⟩
      have lK : H + 1 + 1 < K := by rw [← hK]; exact S5.lt
      have G6 := G5.below b6 G5.lt
      have S6 := S5.below b6 S5.lt
      have B6 : Below H w w6 := bup B5 (Nat.le_of_eq HH.out.symm) b6
      rw [hK] at m6
      rw [hK]
      have M6 : Hid (MapE w6 K M0) := m6
      clear HBY hK b6 m6 G5 S5 B5
      have x3 := G6.cell 3 _ rfl
      have lg := G6.lt
      go_wp2_with fail
      clear x3 lg
      go_loopw [41] (fun i wr => ∃ (k : Nat) (N : List En), k ≤ n ∧ i = .int .i64 k ∧ doAll M0 (pre A k) = some N ∧ MapE wr K N ∧ Blk wr (H + 1) [.int .i64 g0, .int .i64 g1, .int .i64 (-1), .slice ao n cap] ∧ Blk wr (H + 1 + 1) [.int .i64 0, .int .i64 0, .slice none 0 0] ∧ Below H w wr) (fun i _ => n - (intOf i).toNat)
      case atStart => exact ⟨0, M0, by omega, rfl, rfl, M6.out, G6, S6, B6⟩
      case round =>
        clear G6 S6 B6 M6
        obtain ⟨k, N, hk, rfl, T1, q1, q2, q3, q5⟩ := hrel
        have lK' : K < wr.heap.size := q1.lt
        by_cases hlt : k < n
        · have q6 : RdR wr (.slice ao n cap) n A := HR.out.below (by rw [HH.out]; exact q5)
          obtain ⟨c1', o1, e1, l1, c1⟩ := rdR_at q6 hlt
          have U1 : Hid (doE N (A k) = 0 → ∃ N', doR N (A k) = some N' ∧ doAll M0 (pre A (k + 1)) = some N') := S1.out k hlt N T1
          have U2 : Hid (doE N (A k) ≠ 0 → doE N (A k) = 15 ∧ doAll M0 (pre A n) = none) := S2.out k hlt N T1
          have HC : Hid (chk (A k) = 0) := CK.out k hlt
          obtain ⟨r, hr⟩ : ∃ r, A k = r := ⟨_, rfl⟩
          rw [hr] at U1 U2 HC c1
          have HDO : Hid (∀ w', MapE w' K N → Calls Tryz.prog 51 #[.map (some K), recV r] w' fun e w'' => e = .returned (.int .i64 (doE N r)) ∧ (∀ N', doR N r = some N' → MapE w'' K N') ∧ w'.grownBy w'' (some K)) := fun w' h => dl_do w' K N r h HC.out
          obtain ⟨de, hde⟩ : ∃ x, doE N r = x := ⟨_, rfl⟩
          rw [hde] at U1 U2 HDO
          subst e1
          have x0 := c1 0 _ rfl
          have x1 := c1 1 _ rfl
          have x2 := c1 2 _ rfl
          have x3 := c1 3 _ rfl
          have x4 := c1 4 _ rfl
          have x5 := c1 5 _ rfl
          have x6 := c1 6 _ rfl
          have x7 := c1 7 _ rfl
          have x8 := c1 8 _ rfl
          simp only [Nat.add_zero] at x0
          clear c1 q6 hr hde T1 HC
          obtain ⟨r0, r1, r2, r3, r4, r5, r6, r7, r8⟩ := r
          go_upto_region 16 with fail
          generalize hV : wr.alloc (.cells #[.int .i64 r0, .int .i64 r1, .int .i64 r2, .int .i64 r3, .int .i64 r4, .int .i64 r5, .int .i64 r6, .int .i64 r7, .int .u16 r8] 107) = V
          obtain ⟨C2, bn, -⟩ := boxed hV
          have m2 : Hid (MapE V K N) := q1.below bn
          have G2 := q2.below bn q2.lt
          have Z2 := q3.below bn q3.lt
          have B2 := bup q5 (Nat.le_of_eq HH.out.symm) bn
          obtain ⟨P, hP⟩ : ∃ M, wr.heap.size = M := ⟨_, rfl⟩
          rw [hP] at C2 lK'
          rw [hP]
          have lc := C2.lt
          have y0 := C2.cell 0 _ rfl
          have y1 := C2.cell 1 _ rfl
          have y2 := C2.cell 2 _ rfl
          have y3 := C2.cell 3 _ rfl
          have y4 := C2.cell 4 _ rfl
          have y5 := C2.cell 5 _ rfl
          have y6 := C2.cell 6 _ rfl
          have y7 := C2.cell 7 _ rfl
          have y8 := C2.cell 8 _ rfl
          clear hV hP x0 x1 x2 x3 x4 x5 x6 x7 x8 bn q1 q2 q3 q5 l1
          go_wp2_with fail
          refine (HDO.out _ m2.out).mono ?_; rintro e w8 ⟨rfl, mm, g8⟩
          have MM : Hid (∀ N', doR N ⟨r0, r1, r2, r3, r4, r5, r6, r7, r8⟩ = some N' → MapE w8 K N') := mm
          have G8 := G2.by_ g8 (by simp; omega)
          have Z8 := Z2.by_ g8 (by simp; omega)
          have B8 : Below H w w8 := B2.grown g8 (by have := B2.size; rw [HH.out] at this; exact this) (fun j e => by cases e; omega)
          clear y0 y1 y2 y3 y4 y5 y6 y7 y8 lc C2 m2 G2 Z2 B2 mm g8 HDO
          by_cases hz : de = 0
          · subst hz
            obtain ⟨N', d1, d2⟩ := U1.out (by trivial)
            have M8 : Hid (MapE w8 K N') := MM.out N' d1
            have D2 : Hid (doAll M0 (pre A (k + 1)) = some N') := d2
            clear U1 U2 MM d1 d2
            go_wp2_with fail
            go_roundw
            case rel => exact ⟨k + 1, N', by omega, by go_num, D2.out, M8.out, G8, Z8, B8⟩
            case measure => simp [intOf]; omega
          · obtain ⟨d1, d2⟩ := U2.out hz
            have k1 := F1.out d2
            obtain ⟨k2, k3, k4⟩ := HZ.out (by rw [k1]; decide)
            subst d1 k1 k2 k3 k4
            clear U1 U2 MM d2 S1 S2 F1 F2 F3 HZ CK
            have d0 := Z8.cell 0 _ rfl
            have f0 := Z8.froz 0
            have d1 := Z8.cell 1 _ rfl
            have f1 := Z8.froz 1
            have d2 := Z8.cell 2 _ rfl
            have f2 := Z8.froz 2
            have lr := Z8.lt
            go_wp2_with fail
            have RB := blk_three (x0 := .int .i64 0) (x1 := .int .i64 0) (x2 := .slice none 0 0) Z8
            have LB := below_three (x0 := .int .i64 0) (x1 := .int .i64 0) (x2 := .slice none 0 0) B8 (show H ≤ H + 1 + 1 by omega)
            generalize ((w8.setCell ⟨H + 1 + 1, 0, none⟩ (.int .i64 0)).setCell ⟨H + 1 + 1, 1, none⟩ (.int .i64 0)).setCell ⟨H + 1 + 1, 2, none⟩ (.slice none 0 0) = W9 at RB LB ⊢
            have h0 := RB.cell 0 _ rfl
            have h1 := RB.cell 1 _ rfl
            have h2 := RB.cell 2 _ rfl
            refine bodyPost_ret (v := .tuple #[snV 0 0 (.slice none 0 0), .int .i64 15]) (by simp [results, Tryz.results33, go_sem, h0, h1, h2]) rfl ⟨_, rfl, OwnE.nil' _ _, by rw [HH.out]; exact LB⟩
        · obtain rfl : k = n := by omega
          have TT : Hid (doAll M0 (pre A k) = some N) := T1
          have Q1 : Hid (MapE wr K N) := q1
          obtain ⟨nl, hnl⟩ : ∃ x, N.length = x := ⟨_, rfl⟩
          have NL : Hid (N.length = nl) := hnl
          clear S1 S2 T1 CK q1
          by_cases hb : 64 < nl
          · have k1 := F2.out N TT.out (by omega)
            obtain ⟨k2, k3, k4⟩ := HZ.out (by rw [k1]; decide)
            subst k1 k2 k3 k4
            clear F1 F2 F3 HZ hnl
            have d0 := q3.cell 0 _ rfl
            have f0 := q3.froz 0
            have d1 := q3.cell 1 _ rfl
            have f1 := q3.froz 1
            have d2 := q3.cell 2 _ rfl
            have f2 := q3.froz 2
            have lr := q3.lt
            go_wp2_with (at_len; refine lenE_is rfl _ rfl K N rfl (by exact Q1.out) nl (by exact NL.out) ?_)
            have RB := blk_three (x0 := .int .i64 0) (x1 := .int .i64 0) (x2 := .slice none 0 0) q3
            have LB := below_three (x0 := .int .i64 0) (x1 := .int .i64 0) (x2 := .slice none 0 0) q5 (show H ≤ H + 1 + 1 by omega)
            generalize ((wr.setCell ⟨H + 1 + 1, 0, none⟩ (.int .i64 0)).setCell ⟨H + 1 + 1, 1, none⟩ (.int .i64 0)).setCell ⟨H + 1 + 1, 2, none⟩ (.slice none 0 0) = W9 at RB LB ⊢
            have h0 := RB.cell 0 _ rfl
            have h1 := RB.cell 1 _ rfl
            have h2 := RB.cell 2 _ rfl
            refine bodyPost_ret (v := .tuple #[snV 0 0 (.slice none 0 0), .int .i64 4]) (by simp [results, Tryz.results33, go_sem, h0, h1, h2]) rfl ⟨_, rfl, OwnE.nil' _ _, by rw [HH.out]; exact LB⟩
          · obtain ⟨k1, k2, k3, k4⟩ := F3.out N TT.out (by omega)
            have K4 : Hid (TL = N) := k4
            have HRS : Hid (∀ w', MapE w' K N → Calls Tryz.prog 52 #[.map (some K)] w' fun e w'' => ∃ v, e = .returned v ∧ OwnE w'' w'.heap.size v N ∧ Below w'.heap.size w' w'') := fun w' h => dl_rising w' K N h
            subst k1 k2 k3
            clear F1 F2 F3 HZ hnl k4
            go_upto_region 22 with (at_len; refine lenE_is rfl _ rfl K N rfl (by exact Q1.out) nl (by exact NL.out) ?_)
            have x0_0 := q2.cell 0 _ rfl
            have x1_0 := q2.cell 1 _ rfl
            have lg := q2.lt
            have ne21 : H + 1 + 1 ≠ H + 1 := by omega
            go_region_held3 (fun w' => w'.cell? ⟨H + 1, 0, none⟩ = some (.int .i64 RT) ∧ w'.cell? ⟨H + 1, 1, none⟩ = some (.int .i64 RM)) (first | with_reducible exact ⟨x0_0, x1_0⟩ | with_reducible exact ⟨x0_1, x1_1⟩ | with_reducible exact ⟨far3 x0_1 ne21, far3 x1_1 ne21⟩ | with_reducible exact ⟨far3d x0_1 ne21, far3d x1_1 ne21⟩ | go_keep) (first
              | (go_at_call 52; refine (HRS.out _ (MapE.drew Q1.out)).mono ?_; rintro e w9 ⟨u, rfl, own, b9⟩; obtain ⟨au, cu, eu⟩ := own.form; rw [NL.out] at eu; subst eu; have lw : K < wr.heap.size := Q1.out.lt; have G9 := q2.drew.below b9 q2.lt; have Z9 := q3.drew.below b9 q3.lt; have B9 : Below H w w9 := bup q5.drew (Nat.le_of_eq HH.out.symm) b9; have O9 : Hid (OwnE w9 K (.slice au nl cu) N) := own.mono (Nat.le_of_lt lw); clear own b9; have x0_1 := G9.cell 0 _ rfl; have x1_1 := G9.cell 1 _ rfl; have d0 := Z9.cell 0 _ rfl; have d1 := Z9.cell 1 _ rfl; have d2 := Z9.cell 2 _ rfl; have f0 := Z9.froz 0; have f1 := Z9.froz 1; have f2 := Z9.froz 2; have lr := Z9.lt))
            have OB := ((O9.out.set (b := H + 1 + 1) (o := 0) (x := .int .i64 RT) (by omega)).set (b := H + 1 + 1) (o := 1) (x := .int .i64 RM) (by omega)).set (b := H + 1 + 1) (o := 2) (x := .slice au nl cu) (by omega)
            go_wp2_with fail
            have RB := blk_three (x0 := .int .i64 RT) (x1 := .int .i64 RM) (x2 := .slice au nl cu) Z9
            have LB := below_three (x0 := .int .i64 RT) (x1 := .int .i64 RM) (x2 := .slice au nl cu) B9 (show H ≤ H + 1 + 1 by omega)
            generalize ((w9.setCell ⟨H + 1 + 1, 0, none⟩ (.int .i64 RT)).setCell ⟨H + 1 + 1, 1, none⟩ (.int .i64 RM)).setCell ⟨H + 1 + 1, 2, none⟩ (.slice au nl cu) = W9 at RB LB OB ⊢
            have h0 := RB.cell 0 _ rfl
            have h1 := RB.cell 1 _ rfl
            have h2 := RB.cell 2 _ rfl
            refine bodyPost_ret (v := .tuple #[snV RT RM (.slice au nl cu), .int .i64 0]) (by simp [results, Tryz.results33, go_sem, h0, h1, h2]) rfl ⟨_, rfl, by rw [K4.out]; exact OB.mono (by rw [HH.out]; omega), by rw [HH.out]; exact LB⟩

    · have hbq : (g2 == -1) = false := by simp [hb]
      clear WN
      have x0 := X1.cell 0 _ rfl
      have x1 := X1.cell 1 _ rfl
      have x2 := X1.cell 2 _ rfl
      have lx := X1.lt
      go_wp2_with fail
      refine (HC.out _ (by rw [HH.out]; exact B1)).mono ?_; rintro e w2 ⟨rfl, b2⟩
      have X2 := X1.below b2 X1.lt
      have G2 := G1.below b2 G1.lt
      have S2' := S1'.below b2 S1'.lt
      have B2 := bup B1 (Nat.le_of_eq HH.out.symm) b2
      clear x0 x1 x2 lx y2 lg X1 G1 S1' B1 b2 HC
      by_cases hs : se = 0
      · subst hs
        have y2 := G2.cell 2 _ rfl
        have lg := G2.lt
        have x0 := X2.cell 0 _ rfl
        have x1 := X2.cell 1 _ rfl
        have x2 := X2.cell 2 _ rfl
        have lx := X2.lt
        by_cases ht : t = g2
        · subst ht
          have f0 := HF.out (by trivial) (fun _ => ⟨by trivial, rfl⟩) (preE Aa na) (WY.out hb) (HSR.out (by trivial))
          obtain ⟨f1, f2, f3⟩ := f0
          obtain ⟨s1, s2⟩ := all_steps (preE Aa na) A n
          have HBY' : ∀ w', Below w.heap.size w w' → Calls Tryz.prog 50 #[.slice aa na ca] w' fun e w'' => e = .returned (.map (some w'.heap.size)) ∧ MapE w'' w'.heap.size (preE Aa na) ∧ Below w'.heap.size w' w'' := fun w' h => dl_byId w' (.slice aa na ca) na Aa (HRA.out.below h) (HSR.out (by trivial))
          obtain ⟨M0, hM0⟩ : ∃ M0 : List En, preE Aa na = M0 := ⟨_, rfl⟩
          rw [hM0] at f1 f2 f3 s1 s2 HBY'
          have F1 : Hid (doAll M0 (pre A n) = none → E = 15) := f1
          have F2 : Hid (∀ M, doAll M0 (pre A n) = some M → 64 < M.length → E = 4) := f2
          have F3 : Hid (∀ M, doAll M0 (pre A n) = some M → ¬ 64 < M.length → E = 0 ∧ RT = g0 ∧ RM = g1 ∧ TL = M) := f3
          have S1 : Hid (∀ k, k < n → ∀ N, doAll M0 (pre A k) = some N → doE N (A k) = 0 → ∃ N', doR N (A k) = some N' ∧ doAll M0 (pre A (k + 1)) = some N') := s1
          have S2 : Hid (∀ k, k < n → ∀ N, doAll M0 (pre A k) = some N → doE N (A k) ≠ 0 → doE N (A k) = 15 ∧ doAll M0 (pre A n) = none) := s2
          have HBY : Hid (∀ w', Below w.heap.size w w' → Calls Tryz.prog 50 #[.slice aa na ca] w' fun e w'' => e = .returned (.map (some w'.heap.size)) ∧ MapE w'' w'.heap.size M0 ∧ Below w'.heap.size w' w'') := HBY'
          have G5 := G2
          have S5 := S2'
          have B5 := B2
          clear f1 f2 f3 s1 s2 hM0 HBY' H2 H3 HF HSR WY X2 G2 S2' B2
          go_wp2_with fail
          clear y2 lg lx x0 x1 x2
          refine (HBY.out _ (by rw [HH.out]; exact B5)).mono ?_; rintro e w6 ⟨rfl, m6, b6⟩
          obtain ⟨K, hK⟩ : ∃ K, w2.heap.size = K := ⟨_, rfl⟩
          have lK : H + 1 + 1 < K := by rw [← hK]; exact S5.lt
          have G6 := G5.below b6 G5.lt
          have S6 := S5.below b6 S5.lt
          have B6 : Below H w w6 := bup B5 (Nat.le_of_eq HH.out.symm) b6
          rw [hK] at m6
          rw [hK]
          have M6 : Hid (MapE w6 K M0) := m6
          clear HBY hK b6 m6 G5 S5 B5
          have x3 := G6.cell 3 _ rfl
          have lg := G6.lt
          go_wp2_with fail
          clear x3 lg
          go_loopw [41] (fun i wr => ∃ (k : Nat) (N : List En), k ≤ n ∧ i = .int .i64 k ∧ doAll M0 (pre A k) = some N ∧ MapE wr K N ∧ Blk wr (H + 1) [.int .i64 g0, .int .i64 g1, .int .i64 t, .slice ao n cap] ∧ Blk wr (H + 1 + 1) [.int .i64 0, .int .i64 0, .slice none 0 0] ∧ Below H w wr) (fun i _ => n - (intOf i).toNat)
          case atStart => exact ⟨0, M0, by omega, rfl, rfl, M6.out, G6, S6, B6⟩
          case round =>
            clear G6 S6 B6 M6
            obtain ⟨k, N, hk, rfl, T1, q1, q2, q3, q5⟩ := hrel
            have lK' : K < wr.heap.size := q1.lt
            by_cases hlt : k < n
            · have q6 : RdR wr (.slice ao n cap) n A := HR.out.below (by rw [HH.out]; exact q5)
              obtain ⟨c1', o1, e1, l1, c1⟩ := rdR_at q6 hlt
              have U1 : Hid (doE N (A k) = 0 → ∃ N', doR N (A k) = some N' ∧ doAll M0 (pre A (k + 1)) = some N') := S1.out k hlt N T1
              have U2 : Hid (doE N (A k) ≠ 0 → doE N (A k) = 15 ∧ doAll M0 (pre A n) = none) := S2.out k hlt N T1
              have HC : Hid (chk (A k) = 0) := CK.out k hlt
              obtain ⟨r, hr⟩ : ∃ r, A k = r := ⟨_, rfl⟩
              rw [hr] at U1 U2 HC c1
              have HDO : Hid (∀ w', MapE w' K N → Calls Tryz.prog 51 #[.map (some K), recV r] w' fun e w'' => e = .returned (.int .i64 (doE N r)) ∧ (∀ N', doR N r = some N' → MapE w'' K N') ∧ w'.grownBy w'' (some K)) := fun w' h => dl_do w' K N r h HC.out
              obtain ⟨de, hde⟩ : ∃ x, doE N r = x := ⟨_, rfl⟩
              rw [hde] at U1 U2 HDO
              subst e1
              have x0 := c1 0 _ rfl
              have x1 := c1 1 _ rfl
              have x2 := c1 2 _ rfl
              have x3 := c1 3 _ rfl
              have x4 := c1 4 _ rfl
              have x5 := c1 5 _ rfl
              have x6 := c1 6 _ rfl
              have x7 := c1 7 _ rfl
              have x8 := c1 8 _ rfl
              simp only [Nat.add_zero] at x0
              clear c1 q6 hr hde T1 HC
              obtain ⟨r0, r1, r2, r3, r4, r5, r6, r7, r8⟩ := r
              go_upto_region 16 with fail
              generalize hV : wr.alloc (.cells #[.int .i64 r0, .int .i64 r1, .int .i64 r2, .int .i64 r3, .int .i64 r4, .int .i64 r5, .int .i64 r6, .int .i64 r7, .int .u16 r8] 107) = V
              obtain ⟨C2, bn, -⟩ := boxed hV
              have m2 : Hid (MapE V K N) := q1.below bn
              have G2 := q2.below bn q2.lt
              have Z2 := q3.below bn q3.lt
              have B2 := bup q5 (Nat.le_of_eq HH.out.symm) bn
              obtain ⟨P, hP⟩ : ∃ M, wr.heap.size = M := ⟨_, rfl⟩
              rw [hP] at C2 lK'
              rw [hP]
              have lc := C2.lt
              have y0 := C2.cell 0 _ rfl
              have y1 := C2.cell 1 _ rfl
              have y2 := C2.cell 2 _ rfl
              have y3 := C2.cell 3 _ rfl
              have y4 := C2.cell 4 _ rfl
              have y5 := C2.cell 5 _ rfl
              have y6 := C2.cell 6 _ rfl
              have y7 := C2.cell 7 _ rfl
              have y8 := C2.cell 8 _ rfl
              clear hV hP x0 x1 x2 x3 x4 x5 x6 x7 x8 bn q1 q2 q3 q5 l1
              go_wp2_with fail
              refine (HDO.out _ m2.out).mono ?_; rintro e w8 ⟨rfl, mm, g8⟩
              have MM : Hid (∀ N', doR N ⟨r0, r1, r2, r3, r4, r5, r6, r7, r8⟩ = some N' → MapE w8 K N') := mm
              have G8 := G2.by_ g8 (by simp; omega)
              have Z8 := Z2.by_ g8 (by simp; omega)
              have B8 : Below H w w8 := B2.grown g8 (by have := B2.size; rw [HH.out] at this; exact this) (fun j e => by cases e; omega)
              clear y0 y1 y2 y3 y4 y5 y6 y7 y8 lc C2 m2 G2 Z2 B2 mm g8 HDO
              by_cases hz : de = 0
              · subst hz
                obtain ⟨N', d1, d2⟩ := U1.out (by trivial)
                have M8 : Hid (MapE w8 K N') := MM.out N' d1
                have D2 : Hid (doAll M0 (pre A (k + 1)) = some N') := d2
                clear U1 U2 MM d1 d2
                go_wp2_with fail
                go_roundw
                case rel => exact ⟨k + 1, N', by omega, by go_num, D2.out, M8.out, G8, Z8, B8⟩
                case measure => simp [intOf]; omega
              · obtain ⟨d1, d2⟩ := U2.out hz
                have k1 := F1.out d2
                obtain ⟨k2, k3, k4⟩ := HZ.out (by rw [k1]; decide)
                subst d1 k1 k2 k3 k4
                clear U1 U2 MM d2 S1 S2 F1 F2 F3 HZ CK
                have d0 := Z8.cell 0 _ rfl
                have f0 := Z8.froz 0
                have d1 := Z8.cell 1 _ rfl
                have f1 := Z8.froz 1
                have d2 := Z8.cell 2 _ rfl
                have f2 := Z8.froz 2
                have lr := Z8.lt
                go_wp2_with fail
                have RB := blk_three (x0 := .int .i64 0) (x1 := .int .i64 0) (x2 := .slice none 0 0) Z8
                have LB := below_three (x0 := .int .i64 0) (x1 := .int .i64 0) (x2 := .slice none 0 0) B8 (show H ≤ H + 1 + 1 by omega)
                generalize ((w8.setCell ⟨H + 1 + 1, 0, none⟩ (.int .i64 0)).setCell ⟨H + 1 + 1, 1, none⟩ (.int .i64 0)).setCell ⟨H + 1 + 1, 2, none⟩ (.slice none 0 0) = W9 at RB LB ⊢
                have h0 := RB.cell 0 _ rfl
                have h1 := RB.cell 1 _ rfl
                have h2 := RB.cell 2 _ rfl
                refine bodyPost_ret (v := .tuple #[snV 0 0 (.slice none 0 0), .int .i64 15]) (by simp [results, Tryz.results33, go_sem, h0, h1, h2]) rfl ⟨_, rfl, OwnE.nil' _ _, by rw [HH.out]; exact LB⟩
            · obtain rfl : k = n := by omega
              have TT : Hid (doAll M0 (pre A k) = some N) := T1
              have Q1 : Hid (MapE wr K N) := q1
              obtain ⟨nl, hnl⟩ : ∃ x, N.length = x := ⟨_, rfl⟩
              have NL : Hid (N.length = nl) := hnl
              clear S1 S2 T1 CK q1
              by_cases hb : 64 < nl
              · have k1 := F2.out N TT.out (by omega)
                obtain ⟨k2, k3, k4⟩ := HZ.out (by rw [k1]; decide)
                subst k1 k2 k3 k4
                clear F1 F2 F3 HZ hnl
                have d0 := q3.cell 0 _ rfl
                have f0 := q3.froz 0
                have d1 := q3.cell 1 _ rfl
                have f1 := q3.froz 1
                have d2 := q3.cell 2 _ rfl
                have f2 := q3.froz 2
                have lr := q3.lt
                go_wp2_with (at_len; refine lenE_is rfl _ rfl K N rfl (by exact Q1.out) nl (by exact NL.out) ?_)
                have RB := blk_three (x0 := .int .i64 0) (x1 := .int .i64 0) (x2 := .slice none 0 0) q3
                have LB := below_three (x0 := .int .i64 0) (x1 := .int .i64 0) (x2 := .slice none 0 0) q5 (show H ≤ H + 1 + 1 by omega)
                generalize ((wr.setCell ⟨H + 1 + 1, 0, none⟩ (.int .i64 0)).setCell ⟨H + 1 + 1, 1, none⟩ (.int .i64 0)).setCell ⟨H + 1 + 1, 2, none⟩ (.slice none 0 0) = W9 at RB LB ⊢
                have h0 := RB.cell 0 _ rfl
                have h1 := RB.cell 1 _ rfl
                have h2 := RB.cell 2 _ rfl
                refine bodyPost_ret (v := .tuple #[snV 0 0 (.slice none 0 0), .int .i64 4]) (by simp [results, Tryz.results33, go_sem, h0, h1, h2]) rfl ⟨_, rfl, OwnE.nil' _ _, by rw [HH.out]; exact LB⟩
              · obtain ⟨k1, k2, k3, k4⟩ := F3.out N TT.out (by omega)
                have K4 : Hid (TL = N) := k4
                have HRS : Hid (∀ w', MapE w' K N → Calls Tryz.prog 52 #[.map (some K)] w' fun e w'' => ∃ v, e = .returned v ∧ OwnE w'' w'.heap.size v N ∧ Below w'.heap.size w' w'') := fun w' h => dl_rising w' K N h
                subst k1 k2 k3
                clear F1 F2 F3 HZ hnl k4
                go_upto_region 22 with (at_len; refine lenE_is rfl _ rfl K N rfl (by exact Q1.out) nl (by exact NL.out) ?_)
                have x0_0 := q2.cell 0 _ rfl
                have x1_0 := q2.cell 1 _ rfl
                have lg := q2.lt
                have ne21 : H + 1 + 1 ≠ H + 1 := by omega
                go_region_held3 (fun w' => w'.cell? ⟨H + 1, 0, none⟩ = some (.int .i64 RT) ∧ w'.cell? ⟨H + 1, 1, none⟩ = some (.int .i64 RM)) (first | with_reducible exact ⟨x0_0, x1_0⟩ | with_reducible exact ⟨x0_1, x1_1⟩ | with_reducible exact ⟨far3 x0_1 ne21, far3 x1_1 ne21⟩ | with_reducible exact ⟨far3d x0_1 ne21, far3d x1_1 ne21⟩ | go_keep) (first
                  | (go_at_call 52; refine (HRS.out _ (MapE.drew Q1.out)).mono ?_; rintro e w9 ⟨u, rfl, own, b9⟩; obtain ⟨au, cu, eu⟩ := own.form; rw [NL.out] at eu; subst eu; have lw : K < wr.heap.size := Q1.out.lt; have G9 := q2.drew.below b9 q2.lt; have Z9 := q3.drew.below b9 q3.lt; have B9 : Below H w w9 := bup q5.drew (Nat.le_of_eq HH.out.symm) b9; have O9 : Hid (OwnE w9 K (.slice au nl cu) N) := own.mono (Nat.le_of_lt lw); clear own b9; have x0_1 := G9.cell 0 _ rfl; have x1_1 := G9.cell 1 _ rfl; have d0 := Z9.cell 0 _ rfl; have d1 := Z9.cell 1 _ rfl; have d2 := Z9.cell 2 _ rfl; have f0 := Z9.froz 0; have f1 := Z9.froz 1; have f2 := Z9.froz 2; have lr := Z9.lt))
                have OB := ((O9.out.set (b := H + 1 + 1) (o := 0) (x := .int .i64 RT) (by omega)).set (b := H + 1 + 1) (o := 1) (x := .int .i64 RM) (by omega)).set (b := H + 1 + 1) (o := 2) (x := .slice au nl cu) (by omega)
                go_wp2_with fail
                have RB := blk_three (x0 := .int .i64 RT) (x1 := .int .i64 RM) (x2 := .slice au nl cu) Z9
                have LB := below_three (x0 := .int .i64 RT) (x1 := .int .i64 RM) (x2 := .slice au nl cu) B9 (show H ≤ H + 1 + 1 by omega)
                generalize ((w9.setCell ⟨H + 1 + 1, 0, none⟩ (.int .i64 RT)).setCell ⟨H + 1 + 1, 1, none⟩ (.int .i64 RM)).setCell ⟨H + 1 + 1, 2, none⟩ (.slice au nl cu) = W9 at RB LB OB ⊢
                have h0 := RB.cell 0 _ rfl
                have h1 := RB.cell 1 _ rfl
                have h2 := RB.cell 2 _ rfl
                refine bodyPost_ret (v := .tuple #[snV RT RM (.slice au nl cu), .int .i64 0]) (by simp [results, Tryz.results33, go_sem, h0, h1, h2]) rfl ⟨_, rfl, by rw [K4.out]; exact OB.mono (by rw [HH.out]; omega), by rw [HH.out]; exact LB⟩

        · have k1 := H3.out (by trivial) hb (by trivial) ht
          obtain ⟨k2, k3, k4⟩ := HZ.out (by rw [k1]; decide)
          subst k1 k2 k3 k4
          clear H2 H3 HF HSR WY HZ CK
          have d0 := S2'.cell 0 _ rfl
          have f0 := S2'.froz 0
          have d1 := S2'.cell 1 _ rfl
          have f1 := S2'.froz 1
          have d2 := S2'.cell 2 _ rfl
          have f2 := S2'.froz 2
          have lr := S2'.lt
          go_wp2_with fail
          have RB := blk_three (x0 := .int .i64 0) (x1 := .int .i64 0) (x2 := .slice none 0 0) S2'
          have LB := below_three (x0 := .int .i64 0) (x1 := .int .i64 0) (x2 := .slice none 0 0) B2 (show H ≤ H + 1 + 1 by omega)
          generalize ((w2.setCell ⟨H + 1 + 1, 0, none⟩ (.int .i64 0)).setCell ⟨H + 1 + 1, 1, none⟩ (.int .i64 0)).setCell ⟨H + 1 + 1, 2, none⟩ (.slice none 0 0) = W9 at RB LB ⊢
          have h0 := RB.cell 0 _ rfl
          have h1 := RB.cell 1 _ rfl
          have h2 := RB.cell 2 _ rfl
          refine bodyPost_ret (v := .tuple #[snV 0 0 (.slice none 0 0), .int .i64 14]) (by simp [results, Tryz.results33, go_sem, h0, h1, h2]) rfl ⟨_, rfl, OwnE.nil' _ _, by rw [HH.out]; exact LB⟩
      · have k1 := H2.out (by trivial) hb hs
        obtain ⟨k2, k3, k4⟩ := HZ.out (by rw [k1]; exact hs)
        subst k1 k2 k3 k4
        clear H2 H3 HF HSR WY HZ CK
        have hq : (E == 0) = false := by simp [hs]
        have d0 := S2'.cell 0 _ rfl
        have f0 := S2'.froz 0
        have d1 := S2'.cell 1 _ rfl
        have f1 := S2'.froz 1
        have d2 := S2'.cell 2 _ rfl
        have f2 := S2'.froz 2
        have lr := S2'.lt
        go_wp2_with fail
        have RB := blk_three (x0 := .int .i64 0) (x1 := .int .i64 0) (x2 := .slice none 0 0) S2'
        have LB := below_three (x0 := .int .i64 0) (x1 := .int .i64 0) (x2 := .slice none 0 0) B2 (show H ≤ H + 1 + 1 by omega)
        generalize ((w2.setCell ⟨H + 1 + 1, 0, none⟩ (.int .i64 0)).setCell ⟨H + 1 + 1, 1, none⟩ (.int .i64 0)).setCell ⟨H + 1 + 1, 2, none⟩ (.slice none 0 0) = W9 at RB LB ⊢
        have h0 := RB.cell 0 _ rfl
        have h1 := RB.cell 1 _ rfl
        have h2 := RB.cell 2 _ rfl
        refine bodyPost_ret (v := .tuple #[snV 0 0 (.slice none 0 0), .int .i64 E]) (by simp [results, Tryz.results33, go_sem, h0, h1, h2]) rfl ⟨_, rfl, OwnE.nil' _ _, by rw [HH.out]; exact LB⟩
  · have k1 := H1.out hz
    obtain ⟨k2, k3, k4⟩ := HZ.out (by rw [k1]; exact hz)
    subst k1 k2 k3 k4
    clear H1 H2 H3 HF HSR WY WN HZ CK0 HC
    have hq : (E == 0) = false := by simp [hz]
    have d0 := S1'.cell 0 _ rfl
    have f0 := S1'.froz 0
    have d1 := S1'.cell 1 _ rfl
    have f1 := S1'.froz 1
    have d2 := S1'.cell 2 _ rfl
    have f2 := S1'.froz 2
    have lr := S1'.lt
    go_wp2_with fail
    have RB := blk_three (x0 := .int .i64 0) (x1 := .int .i64 0) (x2 := .slice none 0 0) S1'
    have LB := below_three (x0 := .int .i64 0) (x1 := .int .i64 0) (x2 := .slice none 0 0) B1 (show H ≤ H + 1 + 1 by omega)
    generalize ((w1.setCell ⟨H + 1 + 1, 0, none⟩ (.int .i64 0)).setCell ⟨H + 1 + 1, 1, none⟩ (.int .i64 0)).setCell ⟨H + 1 + 1, 2, none⟩ (.slice none 0 0) = W9 at RB LB ⊢
    have h0 := RB.cell 0 _ rfl
    have h1 := RB.cell 1 _ rfl
    have h2 := RB.cell 2 _ rfl
    refine bodyPost_ret (v := .tuple #[snV 0 0 (.slice none 0 0), .int .i64 E]) (by simp [results, Tryz.results33, go_sem, h0, h1, h2]) rfl ⟨_, rfl, OwnE.nil' _ _, by rw [HH.out]; exact LB⟩
end Go.Proofs.YtlpdhglibgnkoaaGreat

namespace Go.Proofs.YtlpdhglibgnkoaaGreat
open Go.RowKit
set_option linter.unusedVariables false
set_option maxRecDepth 8000
attribute [local go_sem ↓] eqE_run

set_option maxHeartbeats 4000000 in
theorem sn_same (w : World) (t m : Int) (v v' : Value) (n : Nat) (A : Nat → En) (hv : RdE w v n A) (hv' : RdE w v' n A) :
    Calls Tryz.prog 16 #[snV t m v, snV t m v'] w fun e w' => e = .returned (.bool true) ∧ Below w.heap.size w w' := by
  have HR : Hid (RdE w v n A) := hv
  have HR2 : Hid (RdE w v' n A) := hv'
  obtain ⟨ao, cap, rfl, hc, hm, _⟩ := hv
  obtain ⟨ao2, cap2, rfl, hc2, hm2, _⟩ := hv'
  go_enter Tryz.func16, Tryz.ntmps16
  go_wp2_with fail
  generalize hW : (w.alloc (.cells #[.int .i64 t, .int .i64 m, .slice ao n cap] 45)).alloc (.cells #[.int .i64 t, .int .i64 m, .slice ao2 n cap2] 45) = W
  obtain ⟨A0, A1, b0⟩ := boxed2 hW
  clear hW
  have R0 : Hid (RdE W (.slice ao n cap) n A) := HR.out.below b0
  have R1 : Hid (RdE W (.slice ao2 n cap2) n A) := HR2.out.below b0
  obtain ⟨H, hH⟩ : ∃ H, w.heap.size = H := ⟨_, rfl⟩
  have HH : Hid (w.heap.size = H) := hH
  rw [hH] at A0 A1 b0
  rw [hH]
  clear hH HR HR2
  go_loopw [5] (fun i wr => ∃ k : Nat, k ≤ n ∧ i = .int .i64 k ∧ Blk wr H [.int .i64 t, .int .i64 m, .slice ao n cap] ∧ Blk wr (H + 1) [.int .i64 t, .int .i64 m, .slice ao2 n cap2] ∧ RdE wr (.slice ao n cap) n A ∧ RdE wr (.slice ao2 n cap2) n A ∧ Below H w wr) (fun i _ => n - (intOf i).toNat)
  case atStart => exact ⟨0, by omega, rfl, A0, A1, R0.out, R1.out, b0⟩
  case round =>
    obtain ⟨k, hk, rfl, q1, q2, q3, q4, q5⟩ := hrel
    have Q3 : Hid (RdE wr (.slice ao n cap) n A) := q3
    have Q4 : Hid (RdE wr (.slice ao2 n cap2) n A) := q4
    have y3 := q1.cell 2 _ rfl
    have z3 := q2.cell 2 _ rfl
    have ly := q1.lt
    have lz := q2.lt
    by_cases hlt : k < n
    · obtain ⟨g1, o1, e1, l1, c1⟩ := rdE_at q3 hlt
      obtain ⟨g2, o2, e2, l2, c2⟩ := rdE_at q4 hlt
      clear q3 q4
      obtain ⟨r, hr⟩ : ∃ r, A k = r := ⟨_, rfl⟩
      rw [hr] at c1 c2
      clear hr
      subst e1 e2
      have eq : entB r r = true := entB_same r
      obtain ⟨r0, r1, r2, r3, r4, r5, r6, r7, r8⟩ := r
      have x0 := c1 0 _ rfl
      have x1 := c1 1 _ rfl
      have x2 := c1 2 _ rfl
      have x3 := c1 3 _ rfl
      have x4 := c1 4 _ rfl
      have x5 := c1 5 _ rfl
      have x6 := c1 6 _ rfl
      have x7 := c1 7 _ rfl
      have x8 := c1 8 _ rfl
      have u0 := c2 0 _ rfl
      have u1 := c2 1 _ rfl
      have u2 := c2 2 _ rfl
      have u3 := c2 3 _ rfl
      have u4 := c2 4 _ rfl
      have u5 := c2 5 _ rfl
      have u6 := c2 6 _ rfl
      have u7 := c2 7 _ rfl
      have u8 := c2 8 _ rfl
      simp only [Nat.add_zero] at x0 u0
      clear c1 c2
      go_wp2_with fail
      go_quiet (fail)
      go_wp2_with fail
      go_roundw
      case rel => exact ⟨k + 1, by omega, by go_num, q1.drewN _, q2.drewN _, Q3.out, Q4.out, below_drewN q5 _⟩
      case measure => simp [intOf]; omega
    · obtain rfl : k = n := by omega
      clear q3 q4
      go_wp2_with fail
      go_ret
      exact ⟨rfl, HH.out ▸ q5⟩
end Go.Proofs.YtlpdhglibgnkoaaGreat

namespace Go.Proofs.YtlpdhglibgnkoaaGreat
open Go.RowKit
set_option linter.unusedVariables false

structure Told (last : Int) (A B : List En) (R : List Rc) : Prop where
  made : apl A R = some B
  asc_ : asc last R
  len : R.length ≤ A.length + B.length
  ok : ∀ r ∈ R, r.ok
/-- A row of records by their places. -/
def atR (L : List Rc) (i : Nat) : Rc := L.getD i noRec
theorem OwnR.atR {w : World} {B : Nat} {v : Value} {L : List Rc} (h : OwnR w B v L) : RdR w v L.length (atR L) := h.rdR
def atE (L : List En) (i : Nat) : En := L.getD i noEnt
theorem pre_atE (L : List En) : preE (atE L) L.length = L := by
  refine List.ext_getElem (by rw [preE_len]) fun i h1 h2 => ?_
  unfold preE atE
  simp [List.getD, h2]
theorem OwnE.atE {w : World} {B : Nat} {v : Value} {L : List En} (h : OwnE w B v L) : RdE w v L.length (atE L) := h.rdR
theorem preE_at (A : Nat → En) (n i : Nat) (h : i < n) : atE (preE A n) i = A i := by
  unfold preE atE
  simp [List.getD, h]
end Go.Proofs.YtlpdhglibgnkoaaGreat

namespace Go.Proofs.YtlpdhglibgnkoaaGreat
open Go.RowKit
set_option linter.unusedVariables false
set_option maxRecDepth 20000

def e7 : En := ⟨7, 0, 0, 0, 0, 0, 0, 5, 0⟩
end Go.Proofs.YtlpdhglibgnkoaaGreat

namespace Go.Proofs.YtlpdhglibgnkoaaGreat
open Go.RowKit
set_option linter.unusedVariables false

end Go.Proofs.YtlpdhglibgnkoaaGreat

namespace Go.Proofs.YtlpdhglibgnkoaaGreat
open Go.ChangeShapes Go.WideShapes Go.ChangeAt Go.RowKit Go.Joins
set_option linter.unusedVariables false
variable {H : Type} {enc : TypeId × Value → H}

end Go.Proofs.YtlpdhglibgnkoaaGreat
