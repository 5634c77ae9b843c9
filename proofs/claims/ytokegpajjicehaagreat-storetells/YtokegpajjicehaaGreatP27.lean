/-
  Texts Dl11 in one.
-/
import Derived.Test.YtokegpajjicehaaGreatP26
namespace Go.Proofs.YtokegpajjicehaaGreat
open Go.RowKit
set_option linter.unusedVariables false
set_option maxRecDepth 8000

theorem ne_own {w : World} {B b : Nat} {v : Value} {L : List Rc} (h : OwnR w B v L) (hb : b < B) : some b ≠ v.ownBlock := fun e => by have := (h.lt b e.symm).1; omega
theorem OwnR.turn {w w' : World} {B K : Nat} {u : Value} {L : List Rc} (h : OwnR w B u L) (hg : w.grownBy w' (some K)) (hK : K < B) : OwnR w' B u L := by
  refine World.ownsRow.kept h hg ?_
  by_cases e : u.ownBlock = none
  · exact Or.inl e
  · exact Or.inr (fun e' => ne_own h hK e'.symm)
theorem grownBy_setCellAny (W : World) (b o : Nat) (v : Value) : W.grownBy (W.setCell ⟨b, o, none⟩ v) (some b) :=
  ⟨rfl, rfl, rfl, (KeepsWalks.setCell W _ v).size, fun k _ hk => Below.heap_setCell _ _ _ k (fun e => hk (by rw [e]))⟩
theorem OwnR.set {w : World} {B b o : Nat} {u x : Value} {L : List Rc} (h : OwnR w B u L) (hb : b < B) : OwnR (w.setCell ⟨b, o, none⟩ x) B u L := h.turn (grownBy_setCellAny w b o x) hb
theorem MapE.row {w w' : World} {B K : Nat} {v v' : Value} {L : List Rc} {N : List En} (h : MapE w K N) (ho : OwnR w B v L) (hK : K < B) (k : Grow B v w v' w') : MapE w' K N := h.kept k.by_ (ne_own ho hK)
theorem Blk.row {w w' : World} {B b : Nat} {v v' : Value} {L : List Rc} {cs : List Value} (h : Blk w b cs) (ho : OwnR w B v L) (hb : b < B) (k : Grow B v w v' w') : Blk w' b cs := h.by_ k.by_ (ne_own ho hb)
theorem by_below {w w' : World} (hg : w.grownBy w' none) : Below w.heap.size w w' := ⟨hg.os, hg.tape, hg.output, hg.size, fun k hk => hg.block k hk (by simp)⟩
theorem OwnR.by_ {w w' : World} {B I : Nat} {u : Value} {L : List Rc} (h : OwnR w B u L) (hg : w.grownBy w' (some I)) (hne : some I ≠ u.ownBlock) : OwnR w' B u L := World.ownsRow.kept h hg (Or.inr (fun e => hne e.symm))
theorem ne_new {w w' : World} {B I : Nat} {v v' : Value} (h : some I ≠ v.ownBlock) (hI : I < w.heap.size) (k : Grow B v w v' w') : some I ≠ v'.ownBlock := by
  rcases k.blk with e | e
  · rw [e]; exact h
  · rw [e]; intro q; injection q with q; omega
section
variable {w : World} {ops : Array Oper} {rest : List Oper} {o : Oper} {a : Act} {Q : Exit → Act → World → Prop}
theorem lookE_gen (hg : o.guard = none) (m x : Operand) (hop : o.op = Op.lookup 107 m x true) (b : Nat) (M : List En) (hm : a.eval m = .map (some b)) (h : MapE w b M) (k : Int) (hx : a.eval x = .int .i64 k) (hk : S64 k) (e : En) (q : Bool) (he : getE (findE k M) = e ∧ isO (findE k M) = q)
    (hK : wpList Tryz.prog ops Q rest (a.put o.dst (.tuple #[entV e, .bool q])) w) : wpList Tryz.prog ops Q (o :: rest) a w := by
  refine lookE_wp hg m x hop b M hm h k hx hk ?_
  rw [he.1, he.2]; exact hK
end
theorem tel_app : ∀ (L R M : List En), telR M (L ++ R) = match telR M L with
    | none => none
    | some p => conR p.1 (telR p.2 R)
  | [], R, M => by
    show telR M R = conR [] (telR M R)
    cases telR M R <;> rfl
  | b :: L, R, M => by
    have ih := tel_app L R (del b.i M)
    show (if reachB (findE b.i M) b = true then conR (chgL (findE b.i M) b) (telR (del b.i M) (L ++ R)) else none) = match (if reachB (findE b.i M) b = true then conR (chgL (findE b.i M) b) (telR (del b.i M) L) else none) with
      | none => none
      | some p => conR p.1 (telR p.2 R)
    split
    · rw [ih]
      cases telR (del b.i M) L with
      | none => rfl
      | some p =>
        show conR _ (conR p.1 (telR p.2 R)) = conR (chgL (findE b.i M) b ++ p.1) (telR p.2 R)
        cases telR p.2 R with
        | none => rfl
        | some q => show some _ = some _; rw [List.append_assoc]
    · rfl
theorem tel_one (M : List En) (b : En) : telR M [b] = if reachB (findE b.i M) b = true then some (chgL (findE b.i M) b, del b.i M) else none := by
  show (if reachB (findE b.i M) b = true then conR (chgL (findE b.i M) b) (some ([], del b.i M)) else none) = _
  split
  · show some (chgL (findE b.i M) b ++ [], _) = _; rw [List.append_nil]
  · rfl
theorem tel_sub : ∀ (L : List En) {M : List En} {p : List Rc × List En}, telR M L = some p → ∀ x ∈ p.2, x ∈ M
  | [], M, p, h, x, hx => by cases h; exact hx
  | b :: L, M, p, h, x, hx => by
    have h' : (if reachB (findE b.i M) b = true then conR (chgL (findE b.i M) b) (telR (del b.i M) L) else none) = some p := h
    split at h'
    · cases ht : telR (del b.i M) L with
      | none => rw [ht] at h'; cases h'
      | some q =>
        rw [ht] at h'
        cases h'
        exact mem_del (tel_sub L ht x hx)
    · cases h'
theorem tel_steps (M : List En) (A : Nat → En) (n : Nat) :
    (∀ k, k < n → ∀ rs N, telR M (preE A k) = some (rs, N) → reachB (findE (A k).i N) (A k) = true → telR M (preE A (k + 1)) = some (rs ++ chgL (findE (A k).i N) (A k), del (A k).i N)) ∧
    (∀ k, k < n → ∀ rs N, telR M (preE A k) = some (rs, N) → reachB (findE (A k).i N) (A k) = false → telR M (preE A n) = none) := by
  refine ⟨fun k hk rs N h hr => ?_, fun k hk rs N h hr => ?_⟩
  · rw [preE_succ, tel_app, h]
    show conR rs (telR N [A k]) = _
    rw [tel_one, if_pos hr]; rfl
  · obtain ⟨R, e⟩ := preE_split A hk
    rw [e, tel_app, h]
    show conR rs (telR N (A k :: R)) = _
    have : telR N (A k :: R) = none := by
      show (if reachB (findE (A k).i N) (A k) = true then _ else none) = _
      rw [if_neg (by rw [hr]; simp)]
    rw [this]; rfl
theorem chg_eq (O : Option En) (r : En) : chgL O r = if chB (isO O) (getE O) r = true then [chR (isO O) (getE O) r] else [] := by
  cases O with
  | none => rfl
  | some a =>
    show (if entB a r = true then [] else [difR a r]) = if (!true || !entB a r) = true then [difR a r] else []
    cases entB a r <;> rfl
theorem reach_eq (O : Option En) (r : En) : reachB O r = (r.g == (getE O).g || (isO O && r.g == ((getE O).g + 1) % 256)) := by
  cases O <;> rfl
def telE (a b : List En) : Int := if (mrg a b).isNone = true then 15 else 0
def telG (g : Gm) (a b : List En) : Gm := if (mrg a b).isNone = true then ⟨0, 0, 0⟩ else g
def telL (a b : List En) : List Rc := (mrg a b).getD []
set_option maxHeartbeats 4000000 in
theorem dl_tell (w : World) (t m base : Int) (v va : Value) (n na : Nat) (A Aa : Nat → En) (hv : RdE w v n A) (hva : RdE w va na Aa) (hr : rise (-1) (preE A n)) (hra : rise (-1) (preE Aa na)) (hga : ∀ x ∈ preE Aa na, 0 ≤ x.g ∧ x.g ≤ 255) :
    Calls Tryz.prog 35 #[snV t m v, .int .i64 base, va] w fun e w' => ∃ u, e = .returned (.tuple #[gmV (telG ⟨t, m, base⟩ (preE Aa na) (preE A n)) u, .int .i64 (telE (preE Aa na) (preE A n))]) ∧ OwnR w' w.heap.size u (telL (preE Aa na) (preE A n)) ∧ Below w.heap.size w w' := by
  have HR : Hid (RdE w v n A) := hv
  have hn := len_max hr
  rw [preE_len] at hn
  have HI : Hid (∀ k, k < n → 0 ≤ (A k).i ∧ (A k).i ≤ 65535) := fun k hk => (pre_ins hr hk).2
  obtain ⟨s1, s2⟩ := tel_steps (preE Aa na) A n
  have S1 : Hid (∀ k, k < n → ∀ rs N, telR (preE Aa na) (preE A k) = some (rs, N) → reachB (findE (A k).i N) (A k) = true → telR (preE Aa na) (preE A (k + 1)) = some (rs ++ chgL (findE (A k).i N) (A k), del (A k).i N)) := s1
  have S2 : Hid (∀ k, k < n → ∀ rs N, telR (preE Aa na) (preE A k) = some (rs, N) → reachB (findE (A k).i N) (A k) = false → telR (preE Aa na) (preE A n) = none) := s2
  have SB : Hid (∀ k rs N, telR (preE Aa na) (preE A k) = some (rs, N) → ∀ x ∈ N, 0 ≤ x.g ∧ x.g ≤ 255) := fun k rs N h x hx => hga x (tel_sub _ h x hx)
  have HT : Hid (TelM (-1) (mrg (preE Aa na) (preE A n)) (telR (preE Aa na) (preE A n))) := tel_mrg _ _ _ hra hr
  have HBY : Hid (∀ w', Below w.heap.size w w' → Calls Tryz.prog 53 #[va] w' fun e w'' => e = .returned (.map (some w'.heap.size)) ∧ MapE w'' w'.heap.size (preE Aa na) ∧ Below w'.heap.size w' w'') := fun w' h => dl_byId w' va na Aa (hva.below h) hra
  have EN : Hid (∀ w', mrg (preE Aa na) (preE A n) = none → telE (preE Aa na) (preE A n) = 15 ∧ telG ⟨t, m, base⟩ (preE Aa na) (preE A n) = ⟨0, 0, 0⟩ ∧ OwnR w' w.heap.size (.slice none 0 0) (telL (preE Aa na) (preE A n))) := fun w' h => by
    refine ⟨by unfold telE; rw [h]; rfl, by unfold telG; rw [h]; rfl, ?_⟩
    unfold telL; rw [h]; exact OwnR.nil _ _
  have EY : Hid (∀ R, mrg (preE Aa na) (preE A n) = some R → telE (preE Aa na) (preE A n) = 0 ∧ telG ⟨t, m, base⟩ (preE Aa na) (preE A n) = ⟨t, m, base⟩ ∧ telL (preE Aa na) (preE A n) = R) := fun R h => by
    refine ⟨by unfold telE; rw [h]; rfl, by unfold telG; rw [h]; rfl, by unfold telL; rw [h]; rfl⟩
  have T0 : telR (preE Aa na) (preE A 0) = some ([], preE Aa na) := rfl
  obtain ⟨M0, hM0⟩ : ∃ M0, preE Aa na = M0 := ⟨_, rfl⟩
  rw [hM0] at S1 S2 SB HT HBY EN EY T0
  rw [hM0]
  obtain ⟨E, hE⟩ : ∃ E, telE M0 (preE A n) = E := ⟨_, rfl⟩
  obtain ⟨GG, hG⟩ : ∃ G, telG ⟨t, m, base⟩ M0 (preE A n) = G := ⟨_, rfl⟩
  obtain ⟨TL, hL⟩ : ∃ L, telL M0 (preE A n) = L := ⟨_, rfl⟩
  obtain ⟨Mg, hMg⟩ : ∃ M, mrg M0 (preE A n) = M := ⟨_, rfl⟩
  rw [hE, hG, hL, hMg] at EN EY
  rw [hMg] at HT
  rw [hE, hG, hL]
  have HT0 : Hid (telR M0 (preE A 0) = some ([], M0)) := T0
  clear hE hG hL hMg hM0 s1 s2 hr hra hga hv T0
  obtain ⟨ao, cap, e0, hc, hm, _⟩ := HR.out
  subst e0
  go_enter Tryz.func35, Tryz.ntmps35
  go_wp2_with fail
  generalize hW : ((w.alloc (.cells #[.int .i64 t, .int .i64 m, .slice ao n cap] 24)).alloc (.cells #[.int .i64 0, .int .i64 0, .int .i64 0, .slice none 0 0] 29)).alloc (.cells #[.int .i64 t, .int .i64 m, .int .i64 base, .slice none 0 0] 29) = W
  obtain ⟨X0, R0, G0, b0, -⟩ := boxed3 hW
  obtain ⟨H, hH⟩ : ∃ H, w.heap.size = H := ⟨_, rfl⟩
  have HH : Hid (w.heap.size = H) := hH
  clear hW
  refine (HBY.out _ b0).mono ?_; rintro e w1 ⟨rfl, m1, b1⟩
  rw [hH] at X0 R0 G0 b0
  rw [hH]
  obtain ⟨K, hK⟩ : ∃ K, W.heap.size = K := ⟨_, rfl⟩
  have lK : H + 1 + 1 < K := by rw [← hK]; exact G0.lt
  have X1 := X0.below b1 X0.lt
  have R1 := R0.below b1 R0.lt
  have G1 := G0.below b1 G0.lt
  have B1 : Below H w w1 := bup b0 (Nat.le_of_eq hH.symm) b1
  rw [hK] at m1
  rw [hK]
  have lm := m1.lt
  have M1 : Hid (MapE w1 K M0) := m1
  clear hK hH HBY X0 R0 G0 b0 b1 m1
  have x2 := X1.cell 2 _ rfl
  have lx := X1.lt
  go_wp2_with fail
  clear x2 lx X1
  go_loopw [28] (fun i wr => ∃ (k : Nat) (rs : List Rc) (N : List En) (u : Value), k ≤ n ∧ i = .int .i64 k ∧ telR M0 (preE A k) = some (rs, N) ∧ rs.length ≤ k ∧ MapE wr K N ∧ Blk wr (H + 1) [.int .i64 0, .int .i64 0, .int .i64 0, .slice none 0 0] ∧ Blk wr (H + 1 + 1) [.int .i64 t, .int .i64 m, .int .i64 base, u] ∧ OwnR wr (K + 1) u rs ∧ Below H w wr) (fun i _ => n - (intOf i).toNat)
  case atStart => exact ⟨0, [], M0, .slice none 0 0, by omega, rfl, HT0.out, by simp, M1.out, R1, G1, OwnR.nil _ _, B1⟩
  case round =>
    clear R1 G1 B1 M1 lm
    obtain ⟨k, rs, N, u, hk, rfl, T1, hrs, q1, q2, q3, q4, q5⟩ := hrel
    have lK' : K < wr.heap.size := q1.lt
    by_cases hlt : k < n
    · have q6 : RdE wr (.slice ao n cap) n A := HR.out.below (by rw [HH.out]; exact q5)
      obtain ⟨g1, o1, e1, l1, c1⟩ := rdE_at q6 hlt
      have U1 : Hid (reachB (findE (A k).i N) (A k) = true → telR M0 (preE A (k + 1)) = some (rs ++ chgL (findE (A k).i N) (A k), del (A k).i N)) := S1.out k hlt rs N T1
      have U2 : Hid (reachB (findE (A k).i N) (A k) = false → telR M0 (preE A n) = none) := S2.out k hlt rs N T1
      obtain ⟨i2, i3⟩ := HI.out k hlt
      have GB : 0 ≤ (getE (findE (A k).i N)).g ∧ (getE (findE (A k).i N)).g ≤ 255 := by
        cases hf : findE (A k).i N with
        | none => show 0 ≤ (0 : Int) ∧ (0 : Int) ≤ 255; omega
        | some x => exact SB.out k rs N T1 x (find_i hf).2
      have CE := chg_eq (findE (A k).i N) (A k)
      have RE := reach_eq (findE (A k).i N) (A k)
      obtain ⟨r, hr⟩ : ∃ r, A k = r := ⟨_, rfl⟩
      rw [hr] at U1 U2 i2 i3 c1 GB CE RE
      obtain ⟨xx, hx⟩ : ∃ x, getE (findE r.i N) = x := ⟨_, rfl⟩
      obtain ⟨oo, ho⟩ : ∃ x, isO (findE r.i N) = x := ⟨_, rfl⟩
      have HX : Hid (getE (findE r.i N) = xx ∧ isO (findE r.i N) = oo) := ⟨hx, ho⟩
      rw [hx, ho] at CE RE
      rw [hx] at GB
      rw [CE] at U1
      rw [RE] at U1 U2
      obtain ⟨dd, hd⟩ : ∃ x, del r.i N = x := ⟨_, rfl⟩
      have HD : Hid (del r.i N = dd) := hd
      rw [hd] at U1
      obtain ⟨qq, hq⟩ : ∃ x, (r.g == xx.g || (oo && r.g == (xx.g + 1) % 256)) = x := ⟨_, rfl⟩
      rw [hq] at U1 U2
      have HQ : Hid (∀ w', Calls Tryz.prog 56 #[entV xx, entV r, .bool oo] w' fun e w'' => e = .returned (.bool qq) ∧ Below w'.heap.size w' w'') := fun w' => by rw [← hq]; exact dl_reached w' xx r oo GB
      obtain ⟨cr, hcr⟩ : ∃ x, chR oo xx r = x := ⟨_, rfl⟩
      obtain ⟨cb, hcb⟩ : ∃ x, chB oo xx r = x := ⟨_, rfl⟩
      have HC : Hid (∀ w', Calls Tryz.prog 57 #[entV xx, entV r, .bool oo] w' fun e w'' => e = .returned (.tuple #[recV cr, .bool cb]) ∧ Below w'.heap.size w' w'') := fun w' => by rw [← hcr, ← hcb]; exact dl_change w' xx r oo
      rw [hcr, hcb] at U1
      have V1 : Hid (qq = true → telR M0 (preE A (k + 1)) = some (rs ++ (if cb = true then [cr] else []), dd)) := U1
      have V2 : Hid (qq = false → telR M0 (preE A n) = none) := U2
      subst e1
      have x0 := c1 0 _ rfl
      have x1 := c1 1 _ rfl
      have x2 := c1 2 _ rfl
      have x3 := c1 3 _ rfl
      have x4 := c1 4 _ rfl
      have x5 := c1 5 _ rfl
      have x6 := c1 6 _ rfl
      have x7 := c1 7 _ rfl
      have x8 := c1 8 _ rfl
      simp only [Nat.add_zero] at x0
      clear c1 q6 hr hx ho CE RE GB hd hq hcr hcb T1 U1 U2
      obtain ⟨r0, r1, r2, r3, r4, r5, r6, r7, r8⟩ := r
      obtain ⟨e0, e1, e2, e3, e4, e5, e6, e7, e8⟩ := xx
      obtain ⟨c0, c1, c2, c3, c4, c5, c6, c7, c8⟩ := cr
      simp only at i2 i3 HX HD
      go_upto_region 6 with fail
      generalize hV : wr.alloc (.cells #[.int .i64 r0, .int .i64 r1, .int .i64 r2, .int .i64 r3, .int .i64 r4, .int .i64 r5, .int .i64 r6, .int .u16 r7, .int .u8 r8] 40) = V
      obtain ⟨C2, bn, -⟩ := boxed hV
      have m2 := q1.below bn
      have R2 := q2.below bn q2.lt
      have G2 := q3.below bn q3.lt
      have O2 : Hid (OwnR V (K + 1) u rs) := q4.below bn
      have B2 := bup q5 (Nat.le_of_eq HH.out.symm) bn
      obtain ⟨P, hP⟩ : ∃ M, wr.heap.size = M := ⟨_, rfl⟩
      rw [hP] at C2 lK'
      rw [hP]
      have lc := C2.lt
      have M2 : Hid (MapE V K N) := m2
      have y0 := C2.cell 0 _ rfl
      have y1 := C2.cell 1 _ rfl
      have y2 := C2.cell 2 _ rfl
      have y3 := C2.cell 3 _ rfl
      have y4 := C2.cell 4 _ rfl
      have y5 := C2.cell 5 _ rfl
      have y6 := C2.cell 6 _ rfl
      have y7 := C2.cell 7 _ rfl
      have y8 := C2.cell 8 _ rfl
      clear hV hP x0 x1 x2 x3 x4 x5 x6 x7 x8 bn q1 q2 q3 q4 q5 l1 m2
      go_upto_region 7 with (at_lookup; refine lookE_gen rfl _ _ rfl K N rfl (by exact M2.out) r0 rfl (by unfold S64; omega) ⟨e0, e1, e2, e3, e4, e5, e6, e7, e8⟩ oo (by exact HX.out) ?_)
      generalize hV : V.alloc (.cells #[.int .i64 e0, .int .i64 e1, .int .i64 e2, .int .i64 e3, .int .i64 e4, .int .i64 e5, .int .i64 e6, .int .u16 e7, .int .u8 e8] 40) = V3
      obtain ⟨C3, bn, -⟩ := boxed hV
      have m3 : Hid (MapE V3 K N) := M2.out.below bn
      have R3 := R2.below bn R2.lt
      have G3 := G2.below bn G2.lt
      have O3 : Hid (OwnR V3 (K + 1) u rs) := O2.out.below bn
      have B3 := bup B2 (Nat.le_of_eq HH.out.symm) bn
      have D3 := C2.below bn C2.lt
      obtain ⟨P', hP⟩ : ∃ M, V.heap.size = M := ⟨_, rfl⟩
      rw [hP] at C3 lc
      rw [hP]
      have ld := D3.lt
      have le := C3.lt
      clear y0 y1 y2 y3 y4 y5 y6 y7 y8 hV hP bn R2 G2 O2 B2 C2 M2 HX
      have y0 := D3.cell 0 _ rfl
      have y1 := D3.cell 1 _ rfl
      have y2 := D3.cell 2 _ rfl
      have y3 := D3.cell 3 _ rfl
      have y4 := D3.cell 4 _ rfl
      have y5 := D3.cell 5 _ rfl
      have y6 := D3.cell 6 _ rfl
      have y7 := D3.cell 7 _ rfl
      have y8 := D3.cell 8 _ rfl
      have z0 := C3.cell 0 _ rfl
      have z1 := C3.cell 1 _ rfl
      have z2 := C3.cell 2 _ rfl
      have z3 := C3.cell 3 _ rfl
      have z4 := C3.cell 4 _ rfl
      have z5 := C3.cell 5 _ rfl
      have z6 := C3.cell 6 _ rfl
      have z7 := C3.cell 7 _ rfl
      have z8 := C3.cell 8 _ rfl
      go_wp2_with fail
      refine (HQ.out _).mono ?_; rintro e w4 ⟨rfl, b4⟩
      have m4 : Hid (MapE w4 K N) := m3.out.below b4
      have R4 := R3.below b4 R3.lt
      have G4 := G3.below b4 G3.lt
      have O4 : Hid (OwnR w4 (K + 1) u rs) := O3.out.below b4
      have B4 := bup B3 (Nat.le_of_eq HH.out.symm) b4
      have D4 := D3.below b4 D3.lt
      have E4 := C3.below b4 C3.lt
      clear y0 y1 y2 y3 y4 y5 y6 y7 y8 z0 z1 z2 z3 z4 z5 z6 z7 z8 ld le m3 R3 G3 O3 B3 D3 C3 b4 HQ
      cases qq
      · have TN : Hid (telR M0 (preE A n) = none) := V2.out rfl
        have MN : Mg = none := by
          cases Mg with
          | none => rfl
          | some R => obtain ⟨p, hp, _⟩ := HT.out; rw [TN.out] at hp; cases hp
        subst MN
        clear V1 V2 S1 S2 HC
        have d0 := R4.cell 0 _ rfl
        have f0 := R4.froz 0
        have d1 := R4.cell 1 _ rfl
        have f1 := R4.froz 1
        have d2 := R4.cell 2 _ rfl
        have f2 := R4.froz 2
        have d3 := R4.cell 3 _ rfl
        have f3 := R4.froz 3
        have lr := R4.lt
        go_wp2_with fail
        have RB := Blk.four (x0 := .int .i64 0) (x1 := .int .i64 0) (x2 := .int .i64 0) (x3 := .slice none 0 0) R4
        have LB := below_four (x0 := .int .i64 0) (x1 := .int .i64 0) (x2 := .int .i64 0) (x3 := .slice none 0 0) B4 (show H ≤ H + 1 by omega)
        generalize (((w4.setCell ⟨H + 1, 0, none⟩ (.int .i64 0)).setCell ⟨H + 1, 1, none⟩ (.int .i64 0)).setCell ⟨H + 1, 2, none⟩ (.int .i64 0)).setCell ⟨H + 1, 3, none⟩ (.slice none 0 0) = W9 at RB LB ⊢
        have h0 := RB.cell 0 _ rfl
        have h1 := RB.cell 1 _ rfl
        have h2 := RB.cell 2 _ rfl
        have h3 := RB.cell 3 _ rfl
        obtain ⟨k1, k2, k3⟩ := EN.out W9 (by trivial)
        subst k1 k2
        refine bodyPost_ret (v := .tuple #[gmV ⟨0, 0, 0⟩ (.slice none 0 0), .int .i64 15]) (by simp [results, Tryz.results35, go_sem, h0, h1, h2, h3]) rfl ⟨_, rfl, k3, by rw [HH.out]; exact LB⟩
      · have T2 : Hid (telR M0 (preE A (k + 1)) = some (rs ++ (if cb = true then [⟨c0, c1, c2, c3, c4, c5, c6, c7, c8⟩] else []), dd)) := V1.out rfl
        clear V1 V2 S1 S2
        have ld := D4.lt
        have y0 := D4.cell 0 _ rfl
        go_upto_region 10 with (at_delete; refine delE_wp rfl _ _ rfl K N rfl (by exact m4.out) r0 rfl (by unfold S64; omega) ?_; intro w5 m5 g5; have M5 : Hid (MapE w5 K dd) := (by rw [← HD.out]; exact m5); have R5 := R4.by_ g5 (by simp; omega); have G5 := G4.by_ g5 (by simp; omega); have O5 : Hid (OwnR w5 (K + 1) u rs) := O4.out.turn g5 (by omega); have B5 : Below H w w5 := B4.grown g5 (by have := B4.size; rw [HH.out] at this; exact this) (fun j e => by cases e; omega); have D5 := D4.by_ g5 (by simp; omega); have E5 := E4.by_ g5 (by simp; omega); clear m5 g5)
        clear y0 ld m4 R4 G4 O4 B4 D4 E4 HD
        have ld := D5.lt
        have le := E5.lt
        have y0 := D5.cell 0 _ rfl
        have y1 := D5.cell 1 _ rfl
        have y2 := D5.cell 2 _ rfl
        have y3 := D5.cell 3 _ rfl
        have y4 := D5.cell 4 _ rfl
        have y5 := D5.cell 5 _ rfl
        have y6 := D5.cell 6 _ rfl
        have y7 := D5.cell 7 _ rfl
        have y8 := D5.cell 8 _ rfl
        have z0 := E5.cell 0 _ rfl
        have z1 := E5.cell 1 _ rfl
        have z2 := E5.cell 2 _ rfl
        have z3 := E5.cell 3 _ rfl
        have z4 := E5.cell 4 _ rfl
        have z5 := E5.cell 5 _ rfl
        have z6 := E5.cell 6 _ rfl
        have z7 := E5.cell 7 _ rfl
        have z8 := E5.cell 8 _ rfl
        go_wp2_with fail
        refine (HC.out _).mono ?_; rintro e w6 ⟨rfl, b6⟩
        have M6 : Hid (MapE w6 K dd) := M5.out.below b6
        have R6 := R5.below b6 R5.lt
        have G6 := G5.below b6 G5.lt
        have O6 : Hid (OwnR w6 (K + 1) u rs) := O5.out.below b6
        have B6 := bup B5 (Nat.le_of_eq HH.out.symm) b6
        clear y0 y1 y2 y3 y4 y5 y6 y7 y8 z0 z1 z2 z3 z4 z5 z6 z7 z8 ld le M5 R5 G5 O5 B5 D5 E5 b6 HC
        go_upto_region 11 with fail
        generalize hV : w6.alloc (.cells #[.int .i64 c0, .int .i64 c1, .int .i64 c2, .int .i64 c3, .int .i64 c4, .int .i64 c5, .int .i64 c6, .int .i64 c7, .int .u16 c8] 79) = V7
        obtain ⟨C7, bn, -⟩ := boxed hV
        have M7 : Hid (MapE V7 K dd) := M6.out.below bn
        have R7 := R6.below bn R6.lt
        have G7 := G6.below bn G6.lt
        have O7 : Hid (OwnR V7 (K + 1) u rs) := O6.out.below bn
        have B7 := bup B6 (Nat.le_of_eq HH.out.symm) bn
        obtain ⟨P7, hP⟩ : ∃ M, w6.heap.size = M := ⟨_, rfl⟩
        have lP7 : K < P7 := by rw [← hP]; exact M6.out.lt
        rw [hP] at C7
        rw [hP]
        clear hV hP bn M6 R6 G6 O6 B6
        cases cb
        · have T3 : Hid (telR M0 (preE A (k + 1)) = some (rs, dd)) := by have := T2.out; rw [if_neg (by simp), List.append_nil] at this; exact this
          clear T2
          go_wp2_with fail
          go_roundw
          case rel => exact ⟨k + 1, rs, dd, u, by omega, by go_num, T3.out, by omega, M7.out, R7, G7, O7.out, B7⟩
          case measure => simp [intOf]; omega
        · have T3 : Hid (telR M0 (preE A (k + 1)) = some (rs ++ [⟨c0, c1, c2, c3, c4, c5, c6, c7, c8⟩], dd)) := by have := T2.out; rw [if_pos rfl] at this; exact this
          clear T2
          obtain ⟨ao5, cap5, e5⟩ := O7.out.form
          obtain ⟨n5, hn5⟩ : ∃ x, rs.length = x := ⟨_, rfl⟩
          have HN5 : Hid (rs.length = n5) := hn5
          rw [hn5] at e5 hrs
          clear hn5
          subst e5
          have g3 := G7.cell 3 _ rfl
          have lg := G7.lt
          have lc := C7.lt
          have y0 := C7.cell 0 _ rfl
          have y1 := C7.cell 1 _ rfl
          have y2 := C7.cell 2 _ rfl
          have y3 := C7.cell 3 _ rfl
          have y4 := C7.cell 4 _ rfl
          have y5 := C7.cell 5 _ rfl
          have y6 := C7.cell 6 _ rfl
          have y7 := C7.cell 7 _ rfl
          have y8 := C7.cell 8 _ rfl
          go_wp2_with (at_builtin; refine growR_wp rfl _ _ rfl (K + 1) _ rs rfl (OwnR.below O7.out ((Below.refl _ _).alloc (Nat.le_refl _) _)) _ ⟨c0, c1, c2, c3, c4, c5, c6, c7, c8⟩ rfl (fun j u hu => (Blk.new V7 (recA ⟨c0, c1, c2, c3, c4, c5, c6, c7, c8⟩) 79 rfl).cell j u hu) (by rw [HN5.out]; omega) (by first | omega | (simp; omega)) ?_; intro u6 w8 own8 gr8; obtain ⟨ao6, cap6, e6⟩ := own8.form; obtain ⟨n6, hn6⟩ : ∃ n6, (rs ++ [⟨c0, c1, c2, c3, c4, c5, c6, c7, c8⟩] : List Rc).length = n6 := ⟨_, rfl⟩; rw [hn6] at e6; clear hn6; subst e6; (try simp only [Act.put, List.setIfInBounds_toArray, List.set_cons_zero, List.set_cons_succ]); have OA := OwnR.below O7.out ((Below.refl _ V7).alloc (Nat.le_refl _) (.cells (recA ⟨c0, c1, c2, c3, c4, c5, c6, c7, c8⟩) 79)); have M8 : Hid (MapE w8 K dd) := (M7.out.alloc _).row OA (by omega) gr8; have R8 := (R7.alloc _).row OA (by omega) gr8; have G8 := (G7.alloc _).row OA (by omega) gr8; have B8 : Below H w w8 := (B7.alloc (by have := B7.size; rw [HH.out] at this; exact this) _).trans (gr8.below.mono (by omega)); have O8 : Hid (OwnR w8 (K + 1) (Value.slice ao6 n6 cap6) (rs ++ [⟨c0, c1, c2, c3, c4, c5, c6, c7, c8⟩])) := own8; clear own8 gr8 OA; have g3 := G8.cell 3 _ rfl; have gf3 := G8.froz 3; have lg := G8.lt)
          have O9 : Hid (OwnR (w8.setCell ⟨H + 1 + 1, 3, none⟩ (Value.slice ao6 n6 cap6)) (K + 1) (Value.slice ao6 n6 cap6) (rs ++ [⟨c0, c1, c2, c3, c4, c5, c6, c7, c8⟩])) := O8.out.set (by omega)
          have M9 : Hid (MapE (w8.setCell ⟨H + 1 + 1, 3, none⟩ (Value.slice ao6 n6 cap6)) K dd) := M8.out.setCell (show K ≠ H + 1 + 1 by omega) _
          have R9 : Blk (w8.setCell ⟨H + 1 + 1, 3, none⟩ (Value.slice ao6 n6 cap6)) (H + 1) _ := R8.other (show H + 1 + 1 ≠ H + 1 by omega) _
          have G9 : Blk (w8.setCell ⟨H + 1 + 1, 3, none⟩ (Value.slice ao6 n6 cap6)) (H + 1 + 1) [.int .i64 t, .int .i64 m, .int .i64 base, (Value.slice ao6 n6 cap6)] := G8.set 3 _ (by simp)
          have B9 : Below H w (w8.setCell ⟨H + 1 + 1, 3, none⟩ (Value.slice ao6 n6 cap6)) := B8.setCell (show H ≤ H + 1 + 1 by omega) _
          generalize w8.setCell ⟨H + 1 + 1, 3, none⟩ (Value.slice ao6 n6 cap6) = W9 at O9 M9 R9 G9 B9 ⊢
          go_roundw
          case rel => exact ⟨k + 1, _, dd, _, by omega, by go_num, T3.out, by rw [List.length_append, List.length_singleton, HN5.out]; omega, M9.out, R9, G9, O9.out, B9⟩
          case measure => simp [intOf]; omega
    · obtain rfl : k = n := by omega
      have TT : Hid (telR M0 (preE A k) = some (rs, N)) := T1
      clear S1 S2 SB T1 HI HT0 EN
      have Q1 : Hid (MapE wr K N) := q1
      have hNl := len_max q1.asc_
      obtain ⟨I, hI⟩ : ∃ I, wr.heap.size = I := ⟨_, rfl⟩
      have hIu : some I ≠ u.ownBlock := fun e => by have := (q4.lt I e.symm).2; omega
      go_wp2_with (at_range; refine rangeE_wp rfl _ rfl K N rfl (by exact Q1.out) ?_; intro w0 run0 g0 s0)
      have R0 := q2.by_ g0 (by simp)
      have G0 := q3.by_ g0 (by simp)
      have O0 : OwnR w0 (K + 1) u rs := q4.below (by_below g0)
      have B0 : Below H w w0 := q5.trans ((by_below g0).mono (by have := q5.size; rw [HH.out] at this; exact this))
      rw [hI] at run0 s0 lK' ⊢
      clear q1 q2 q3 q4 q5 g0 hI Q1
      go_frame
      go_loopw [16] (fun _ wr => ∃ (cnt : Nat) (got : List En) (u : Value), RunE wr K I N got cnt ∧ Blk wr (H + 1) [.int .i64 0, .int .i64 0, .int .i64 0, .slice none 0 0] ∧ Blk wr (H + 1 + 1) [.int .i64 t, .int .i64 m, .int .i64 base, u] ∧ OwnR wr (K + 1) u (rs ++ got.map remR) ∧ some I ≠ u.ownBlock ∧ got.length + cnt ≤ 65536 ∧ Below H w wr) (fun _ wr => wr.rangeLeft K I)
      case atStart => exact ⟨_, [], u, run0, R0, G0, by simpa using O0, hIu, by simp; omega, B0⟩
      case round =>
        clear R0 G0 O0 B0 run0 s0 hIu
        obtain ⟨cnt, got, u2, run, q2, q3, q4, q6, q7, q5⟩ := hrel
        have RUN : Hid (RunE wr K I N got cnt) := run
        have O : Hid (OwnR wr (K + 1) u2 (rs ++ got.map remR)) := q4
        have rlt := run.lt
        go_wp2_with (at_next; refine nextE_wp rfl _ rfl K I N got cnt rfl (by exact RUN.out) ?_ ?_)
        · intro hp
          have HP : Hid (got.Perm N) := hp
          clear RUN run
          have g3 := q3.cell 3 _ rfl
          have lg := q3.lt
          go_wp2_with fail
          refine (sortR_any _ _ u2 _ O.out (by rw [List.length_append, List.length_map]; omega)).mono ?_
          rintro e w8 ⟨rfl, S, p1, p2, o8, gr8⟩
          have R8 := q2.by_ gr8 (ne_own O.out (by omega))
          have G8 := q3.by_ gr8 (ne_own O.out (by omega))
          have B8 : Below H w w8 := q5.grown gr8 (by have := q5.size; rw [HH.out] at this; exact this) (fun j hj => by have := (O.out.lt j hj).1; omega)
          have HS : Hid (∃ R, Mg = some R ∧ R = S) := by
            cases hMg : Mg with
            | none => have h := HT.out; rw [hMg] at h; have h' : telR M0 (preE A k) = none := h; rw [TT.out] at h'; cases h'
            | some R =>
              have h := HT.out
              rw [hMg] at h
              obtain ⟨p, hpp, hperm, hup⟩ := h
              rw [TT.out] at hpp
              cases hpp
              refine ⟨R, rfl, (up_only hup ?_ p2).symm⟩
              exact hperm.trans ((List.Perm.append_left rs (HP.out.map remR)).symm.trans p1.symm)
          have O8 : Hid (OwnR w8 (K + 1) u2 S) := o8
          obtain ⟨ao5, cap5, e5⟩ := O8.out.form
          obtain ⟨n5, hn5⟩ : ∃ x, S.length = x := ⟨_, rfl⟩
          rw [hn5] at e5
          clear q2 q3 q4 q5 q6 g3 lg o8 p1 p2 gr8 O HP hp hn5
          subst e5
          have g0 := G8.cell 0 _ rfl
          have g1 := G8.cell 1 _ rfl
          have g2 := G8.cell 2 _ rfl
          have g3 := G8.cell 3 _ rfl
          have d0 := R8.cell 0 _ rfl
          have f0 := R8.froz 0
          have d1 := R8.cell 1 _ rfl
          have f1 := R8.froz 1
          have d2 := R8.cell 2 _ rfl
          have f2 := R8.froz 2
          have d3 := R8.cell 3 _ rfl
          have f3 := R8.froz 3
          have lg := G8.lt
          have lr := R8.lt
          go_wp2_with fail
          have RB := Blk.four (x0 := .int .i64 t) (x1 := .int .i64 m) (x2 := .int .i64 base) (x3 := .slice ao5 n5 cap5) R8
          have LB := below_four (x0 := .int .i64 t) (x1 := .int .i64 m) (x2 := .int .i64 base) (x3 := .slice ao5 n5 cap5) B8 (show H ≤ H + 1 by omega)
          have OB := (((O8.out.set (b := H + 1) (o := 0) (x := .int .i64 t) (by omega)).set (b := H + 1) (o := 1) (x := .int .i64 m) (by omega)).set (b := H + 1) (o := 2) (x := .int .i64 base) (by omega)).set (b := H + 1) (o := 3) (x := .slice ao5 n5 cap5) (by omega)
          generalize (((w8.setCell ⟨H + 1, 0, none⟩ (.int .i64 t)).setCell ⟨H + 1, 1, none⟩ (.int .i64 m)).setCell ⟨H + 1, 2, none⟩ (.int .i64 base)).setCell ⟨H + 1, 3, none⟩ (.slice ao5 n5 cap5) = W9 at RB LB OB ⊢
          have h0 := RB.cell 0 _ rfl
          have h1 := RB.cell 1 _ rfl
          have h2 := RB.cell 2 _ rfl
          have h3 := RB.cell 3 _ rfl
          have OB' : Hid (OwnR W9 (K + 1) (.slice ao5 n5 cap5) S) := OB
          clear OB
          obtain ⟨R, rfl, rfl⟩ := HS.out
          obtain ⟨k1, k2, k3⟩ := EY.out R (by first | trivial | rfl)
          subst k1 k2 k3
          refine bodyPost_ret (v := .tuple #[gmV ⟨t, m, base⟩ (.slice ao5 n5 cap5), .int .i64 0]) (by simp [results, Tryz.results35, go_sem, h0, h1, h2, h3]) rfl ⟨_, rfl, by rw [HH.out]; exact OB'.out.mono (by omega), by rw [HH.out]; exact LB⟩
        · intro e w2 cnt2 he run2 hlt2 hg2 hs2 hen
          have R2 := q2.by_ hg2 (by simp; omega)
          have G2 := q3.by_ hg2 (by simp; omega)
          have O2 : Hid (OwnR w2 (K + 1) u2 (rs ++ got.map remR)) := O.out.by_ hg2 q6
          have B2 : Below H w w2 := q5.grown hg2 (by have := q5.size; rw [HH.out] at this; exact this) (fun j e => by cases e; omega)
          have RN : Hid (RunE w2 K I N (got ++ [e]) cnt2) := run2
          have OLD : Hid (World.rangeLeft wr K I = cnt) := run.left_eq
          have HLT : Hid (cnt2 < cnt) := hlt2
          have rl2 : I < w2.heap.size := by rw [hs2]; exact rlt
          have HQ7 : Hid (got.length + cnt2 + 1 ≤ 65536) := (by omega : got.length + cnt2 + 1 ≤ 65536)
          obtain ⟨ao5, cap5, e5⟩ := O2.out.form
          obtain ⟨n5, hn5⟩ : ∃ x, (rs ++ got.map remR).length = x := ⟨_, rfl⟩
          have HN5 : Hid ((rs ++ got.map remR).length = n5) := hn5
          have n5b : n5 ≤ 131072 := by rw [← hn5, List.length_append, List.length_map]; omega
          rw [hn5] at e5
          clear hn5 hs2 run run2 O RUN hg2 q2 q3 q5 rlt hlt2 q7
          subst e5
          have g3 := G2.cell 3 _ rfl
          have lg := G2.lt
          obtain ⟨e0, e1, e2, e3, e4, e5, e6, e7, e8⟩ := e
          go_wp2_with (at_builtin; refine growR_wp rfl _ _ rfl (K + 1) _ (rs ++ got.map remR) rfl (OwnR.below O2.out ((Below.refl _ _).alloc (Nat.le_refl _) _)) _ ⟨2, e0, 0, 0, 0, 0, 0, 0, 0⟩ rfl (fun j u hu => (Blk.new w2 (recA ⟨2, e0, 0, 0, 0, 0, 0, 0, 0⟩) 79 rfl).cell j u hu) (by rw [HN5.out]; omega) (by first | omega | (simp; omega)) ?_; intro u6 w8 own8 gr8; have NE := ne_new (I := I) q6 (by simp; omega) gr8; obtain ⟨ao6, cap6, e6⟩ := own8.form; obtain ⟨n6, hn6⟩ : ∃ n6, (rs ++ got.map remR ++ [⟨2, e0, 0, 0, 0, 0, 0, 0, 0⟩] : List Rc).length = n6 := ⟨_, rfl⟩; rw [hn6] at e6; clear hn6; subst e6; (try simp only [Act.put, List.setIfInBounds_toArray, List.set_cons_zero, List.set_cons_succ]); have OA := OwnR.below O2.out ((Below.refl _ w2).alloc (Nat.le_refl _) (.cells (recA ⟨2, e0, 0, 0, 0, 0, 0, 0, 0⟩) 79)); have M8 : Hid (RunE w8 K I N (got ++ [⟨e0, e1, e2, e3, e4, e5, e6, e7, e8⟩]) cnt2) := ((RN.out.kept (World.grownBy_alloc w2 _ none) (by simp) (by simp)).kept gr8.by_ (ne_own OA (by omega)) q6); have R8 := (R2.alloc _).row OA (by omega) gr8; have G8 := (G2.alloc _).row OA (by omega) gr8; have B8 : Below H w w8 := (B2.alloc (by have := B2.size; rw [HH.out] at this; exact this) _).trans (gr8.below.mono (by omega)); have O8 : Hid (OwnR w8 (K + 1) (Value.slice ao6 n6 cap6) (rs ++ got.map remR ++ [⟨2, e0, 0, 0, 0, 0, 0, 0, 0⟩])) := own8; clear own8 gr8 OA; have g3 := G8.cell 3 _ rfl; have gf3 := G8.froz 3; have lg := G8.lt)
          have eqL : rs ++ (got ++ [(⟨e0, e1, e2, e3, e4, e5, e6, e7, e8⟩ : En)]).map remR = rs ++ got.map remR ++ [⟨2, e0, 0, 0, 0, 0, 0, 0, 0⟩] := by rw [List.map_append, List.append_assoc]; rfl
          have EQL : Hid (rs ++ (got ++ [(⟨e0, e1, e2, e3, e4, e5, e6, e7, e8⟩ : En)]).map remR = rs ++ got.map remR ++ [⟨2, e0, 0, 0, 0, 0, 0, 0, 0⟩]) := eqL
          clear eqL
          have O9 : Hid (OwnR (w8.setCell ⟨H + 1 + 1, 3, none⟩ (Value.slice ao6 n6 cap6)) (K + 1) (Value.slice ao6 n6 cap6) (rs ++ got.map remR ++ [⟨2, e0, 0, 0, 0, 0, 0, 0, 0⟩])) := O8.out.set (by omega)
          have M9 : Hid (RunE (w8.setCell ⟨H + 1 + 1, 3, none⟩ (Value.slice ao6 n6 cap6)) K I N (got ++ [⟨e0, e1, e2, e3, e4, e5, e6, e7, e8⟩]) cnt2) := M8.out.kept (grownBy_setCellAny _ _ _ _) (by simp; omega) (by simp; omega)
          have R9 : Blk (w8.setCell ⟨H + 1 + 1, 3, none⟩ (Value.slice ao6 n6 cap6)) (H + 1) _ := R8.other (show H + 1 + 1 ≠ H + 1 by omega) _
          have G9 : Blk (w8.setCell ⟨H + 1 + 1, 3, none⟩ (Value.slice ao6 n6 cap6)) (H + 1 + 1) [.int .i64 t, .int .i64 m, .int .i64 base, (Value.slice ao6 n6 cap6)] := G8.set 3 _ (by simp)
          have B9 : Below H w (w8.setCell ⟨H + 1 + 1, 3, none⟩ (Value.slice ao6 n6 cap6)) := B8.setCell (show H ≤ H + 1 + 1 by omega) _
          generalize w8.setCell ⟨H + 1 + 1, 3, none⟩ (Value.slice ao6 n6 cap6) = W9 at O9 M9 R9 G9 B9 ⊢
          go_roundw
          case rel => exact ⟨cnt2, _, _, M9.out, R9, G9, by rw [EQL.out]; exact O9.out, NE, by have := HQ7.out; rw [List.length_append, List.length_singleton]; omega, B9⟩
          case measure => rw [M9.out.left_eq, OLD.out]; exact HLT.out
end Go.Proofs.YtokegpajjicehaaGreat
