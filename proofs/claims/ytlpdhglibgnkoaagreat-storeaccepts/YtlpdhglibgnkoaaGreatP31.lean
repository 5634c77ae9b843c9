/-
  Texts St9, St10 in one.
-/
import Derived.Test.YtlpdhglibgnkoaaGreatP30
namespace Go.Proofs.YtlpdhglibgnkoaaGreat
open Go.RowKit
set_option linter.unusedVariables false
set_option maxRecDepth 20000

theorem StoV.keep {w w' : World} {B S R : Nat} {v v' : Value} {rs : Rs} {s : Sto} (h : StoV w B S R v rs s) (hc : Chg B R v v' w w') (x : Sn) (ao : Option Addr) (n c : Nat) (hx : OwnE w B (.slice ao n c) x.E)
    (ha : ∀ g, (Value.slice ao n c).ownBlock = some g → g ≠ S ∧ g ≠ R ∧ some g ≠ v.ownBlock)
    (h1 : isS s.L x.t = false) (h2 : ¬ (s.L.length = s.M ∧ untS s.L x.t = 0)) (hr : RngV 90 w' B R v' (layS rs x.t (snV x.t x.m (.slice ao n c)))) :
    (layA rs x.t).2.2 = 0 ∧ StoV w' B S R v' (layS rs x.t (snV x.t x.m (.slice ao n c))) { s with L := keepS s.M s.L x } := by
  have cs : Chs B S R v v' w w' := Chs.of_chg hc
  have e1 : Go.Proofs.YtlpdhglibgnkoaaGreat.isAt rs.L x.t = false := by rw [h.isAt]; exact h1
  have e2 : ¬ (Go.Proofs.YtlpdhglibgnkoaaGreat.untl rs.L x.t = 0 ∧ rs.L.length = rs.M) := by rw [h.untl, h.len, h.most]; exact fun q => h2 ⟨q.2, q.1⟩
  have hb := (h.blk.chg hc h.ne h.nev)
  obtain ⟨o1, o2⟩ := hx.chs cs ha
  have kn : Kp w' B S R v' (x.t, snV x.t x.m (.slice ao n c)) x := ⟨ao, n, c, rfl, o1, o2⟩
  have kl : Fa2 (Kp w' B S R v') (laid rs.L x.t (snV x.t x.m (.slice ao n c))) (laidS s.L x) := (h.kept.mono (Kp.chs cs)).laid Kp.key kn
  by_cases hl : rs.L.length < rs.M
  · obtain ⟨a1, a2⟩ := lay_fit (x := snV x.t x.m (.slice ao n c)) e1 hl
    rw [a2] at hr ⊢
    refine ⟨by rw [a1], ⟨hb.1, hr, h.most, ?_, h.ne, hb.2, h.le, h.num⟩⟩
    unfold keepS
    rw [if_pos (by rw [← h.len, ← h.most]; exact hl)]
    exact kl
  · obtain ⟨a1, a2⟩ := lay_full (x := snV x.t x.m (.slice ao n c)) e1 e2 hl
    rw [a2] at hr ⊢
    refine ⟨by rw [a1], ⟨hb.1, hr, h.most, ?_, h.ne, hb.2, h.le, h.num⟩⟩
    unfold keepS
    rw [if_neg (by rw [← h.len, ← h.most]; exact hl)]
    exact kl.tail
set_option maxHeartbeats 2000000 in
/-- The sixth: it is laid into the ring. -/
theorem tk_six (w : World) (B S R : Nat) (v : Value) (rs : Rs) (s : Sto) (h : StoV w B S R v rs s) (P PT : Nat) (hp : Blk w P [.pointer (some ⟨S, 0, none⟩)]) (x : Sn) (hk : -9223372036854775808 ≤ x.t ∧ x.t ≤ 9223372036854775807) (ao : Option Addr) (n c : Nat) (ht : Blk w PT [.int .i64 x.t, .int .i64 x.m, .slice ao n c])
    (hx : OwnE w B (.slice ao n c) x.E) (ha : ∀ g, (Value.slice ao n c).ownBlock = some g → g ≠ S ∧ g ≠ R ∧ some g ≠ v.ownBlock) (h1 : isS s.L x.t = false) (h2 : ¬ (s.L.length = s.M ∧ untS s.L x.t = 0))
    (nP : P ≠ R ∧ some P ≠ v.ownBlock) (nT : PT ≠ R ∧ some PT ≠ v.ownBlock) :
    Calls Tryz.prog 36 (#[] ++ #[.pointer (some ⟨P, 0, none⟩), .pointer (some ⟨PT, 0, none⟩)]) w fun e w' => e = .returned (.int .i64 0) ∧ ∃ v' rs', StoV w' B S R v' rs' { s with L := keepS s.M s.L x } ∧ Chs B S R v v' w w' ∧ Blk w' PT [.int .i64 x.t, .int .i64 x.m, .slice ao n c] := by
  have HS : Hid (StoV w B S R v rs s) := h
  have HX : Hid (OwnE w B (.slice ao n c) x.E) := hx
  have c1 := h.c1
  have p0 := hp.cell 0 _ rfl
  have t0 := ht.cell 0 _ rfl
  have t1 := ht.cell 1 _ rfl
  have t2 := ht.cell 2 _ rfl
  have lt := ht.lt
  obtain ⟨xt, xm, xE⟩ := x
  simp only at hk t0 t1 t2 h1 h2 HX
  have HT : Hid (Blk w PT [.int .i64 xt, .int .i64 xm, .slice ao n c]) := ht
  have HP : Hid (Blk w P [.pointer (some ⟨S, 0, none⟩)]) := hp
  have H1 : Hid (isS s.L xt = false) := h1
  have H2 : Hid (¬ (s.L.length = s.M ∧ untS s.L xt = 0)) := h2
  clear h hp ht hx h1 h2
  go_enter Tryz.func36, Tryz.ntmps36
  go_wp2_with fail
  go_region_held3 (fun w' => w'.cell? ⟨S, 1, none⟩ = some (.pointer (some ⟨R, 0, none⟩)) ∧ w'.cell? ⟨P, 0, none⟩ = some (.pointer (some ⟨S, 0, none⟩)) ∧ w'.cell? ⟨PT, 0, none⟩ = some (.int .i64 xt) ∧ w'.cell? ⟨PT, 1, none⟩ = some (.int .i64 xm) ∧ w'.cell? ⟨PT, 2, none⟩ = some (.slice ao n c)) (first | with_reducible exact ⟨c1, p0, t0, t1, t2⟩ | with_reducible exact ⟨c1_b, p0_b, t0_b, t1_b, t2_b⟩ | go_keep)
    (first | (go_at_call 37; refine (lay_anyP _ B R v rs (HS.out.drewN 1).rng xt hk xt xm ao n c).mono ?_; rintro e w1 ⟨rfl, v1, r1, cg⟩; have K1 := (HS.out.drewN 1).keep cg ⟨xt, xm, xE⟩ ao n c HX.out ha H1.out H2.out r1; have S1 : Hid (StoV w1 B S R v1 _ _) := K1.2; have CG : Hid (Chg B R v v1 w.drew w1) := cg; rw [K1.1]; have T1 := (HT.out.drew.chg cg nT.1 nT.2).1; have P1 := (HP.out.drew.chg cg nP.1 nP.2).1; clear r1 cg K1; have c1_b := S1.out.c1; have p0_b := P1.cell 0 _ rfl; have t0_b := T1.cell 0 _ rfl; have t1_b := T1.cell 1 _ rfl; have t2_b := T1.cell 2 _ rfl))
  go_wp2_with fail
  go_ret
  exact ⟨rfl, v1, _, S1.out, (Chs.of_below (Below.refl _ _).drew (Nat.le_trans HS.out.le (Nat.le_of_lt HS.out.blk.lt))).trans (Chs.of_chg CG.out), T1⟩
theorem boxed6 {w W : World} {a b c d e f : Array Value} {t1 t2 t3 t4 t5 t6 : TypeId} (h : (((((w.alloc (.cells a t1)).alloc (.cells b t2)).alloc (.cells c t3)).alloc (.cells d t4)).alloc (.cells e t5)).alloc (.cells f t6) = W) :
    Blk W w.heap.size a.toList ∧ Blk W (w.heap.size + 1) b.toList ∧ Blk W (w.heap.size + 1 + 1) c.toList ∧ Blk W (w.heap.size + 1 + 1 + 1) d.toList ∧ Blk W (w.heap.size + 1 + 1 + 1 + 1) e.toList ∧ Blk W (w.heap.size + 1 + 1 + 1 + 1 + 1) f.toList ∧ Below w.heap.size w W := by
  obtain ⟨W4, h4⟩ : ∃ W4, (((w.alloc (.cells a t1)).alloc (.cells b t2)).alloc (.cells c t3)).alloc (.cells d t4) = W4 := ⟨_, rfl⟩
  have s4 : W4.heap.size = w.heap.size + 1 + 1 + 1 + 1 := by rw [← h4]; simp
  obtain ⟨x1, x2, x3, x4, b4⟩ := boxed4 h4
  rw [h4] at h
  obtain ⟨y1, y2, b2⟩ := boxed2 h
  rw [s4] at y1 y2
  exact ⟨x1.below b2 (by rw [s4]; omega), x2.below b2 (by rw [s4]; omega), x3.below b2 (by rw [s4]; omega), x4.below b2 (by rw [s4]; omega), y1, y2, b4.trans (b2.mono (by rw [s4]; omega))⟩
theorem idx0 (w : World) (a0 a1 a2 a3 a4 a5 : Nat) (c0 c1 c2 c3 c4 c5 : Array Value) : (Instr.index 84 (.agg #[.func (.func a0) #[] c0, .func (.func a1) #[] c1, .func (.func a2) #[] c2, .func (.func a3) #[] c3, .func (.func a4) #[] c4, .func (.func a5) #[] c5]) (.int .i64 0)).run Tryz.prog w = .ok (.func (.func a0) #[] c0) w := by
  simp [Instr.index, run_underlying Tryz.underlying84, asIntOf, go_sem]
theorem idx1 (w : World) (a0 a1 a2 a3 a4 a5 : Nat) (c0 c1 c2 c3 c4 c5 : Array Value) : (Instr.index 84 (.agg #[.func (.func a0) #[] c0, .func (.func a1) #[] c1, .func (.func a2) #[] c2, .func (.func a3) #[] c3, .func (.func a4) #[] c4, .func (.func a5) #[] c5]) (.int .i64 1)).run Tryz.prog w = .ok (.func (.func a1) #[] c1) w := by
  simp [Instr.index, run_underlying Tryz.underlying84, asIntOf, go_sem]
theorem idx2 (w : World) (a0 a1 a2 a3 a4 a5 : Nat) (c0 c1 c2 c3 c4 c5 : Array Value) : (Instr.index 84 (.agg #[.func (.func a0) #[] c0, .func (.func a1) #[] c1, .func (.func a2) #[] c2, .func (.func a3) #[] c3, .func (.func a4) #[] c4, .func (.func a5) #[] c5]) (.int .i64 2)).run Tryz.prog w = .ok (.func (.func a2) #[] c2) w := by
  simp [Instr.index, run_underlying Tryz.underlying84, asIntOf, go_sem]
theorem idx3 (w : World) (a0 a1 a2 a3 a4 a5 : Nat) (c0 c1 c2 c3 c4 c5 : Array Value) : (Instr.index 84 (.agg #[.func (.func a0) #[] c0, .func (.func a1) #[] c1, .func (.func a2) #[] c2, .func (.func a3) #[] c3, .func (.func a4) #[] c4, .func (.func a5) #[] c5]) (.int .i64 3)).run Tryz.prog w = .ok (.func (.func a3) #[] c3) w := by
  simp [Instr.index, run_underlying Tryz.underlying84, asIntOf, go_sem]
theorem idx4 (w : World) (a0 a1 a2 a3 a4 a5 : Nat) (c0 c1 c2 c3 c4 c5 : Array Value) : (Instr.index 84 (.agg #[.func (.func a0) #[] c0, .func (.func a1) #[] c1, .func (.func a2) #[] c2, .func (.func a3) #[] c3, .func (.func a4) #[] c4, .func (.func a5) #[] c5]) (.int .i64 4)).run Tryz.prog w = .ok (.func (.func a4) #[] c4) w := by
  simp [Instr.index, run_underlying Tryz.underlying84, asIntOf, go_sem]
theorem idx5 (w : World) (a0 a1 a2 a3 a4 a5 : Nat) (c0 c1 c2 c3 c4 c5 : Array Value) : (Instr.index 84 (.agg #[.func (.func a0) #[] c0, .func (.func a1) #[] c1, .func (.func a2) #[] c2, .func (.func a3) #[] c3, .func (.func a4) #[] c4, .func (.func a5) #[] c5]) (.int .i64 5)).run Tryz.prog w = .ok (.func (.func a5) #[] c5) w := by
  simp [Instr.index, run_underlying Tryz.underlying84, asIntOf, go_sem]
theorem tick_zero {M : Nat} {L : List Sn} {k : Int} (h : tickE M L k = 0) : isS L k = false ∧ ¬ (L.length = M ∧ untS L k = 0) := by
  unfold tickE at h
  split at h
  · omega
  · split at h
    · omega
    · rename_i h1 h2; exact ⟨by simpa using h1, h2⟩
def baseE (L : List Sn) (k : Int) : Int := if k ≠ -1 ∧ isS L k = false then 14 else 0
def lateE (L : List Sn) (x : Sn) : Int := if lateB L x = true then 16 else 0
/-- Why bytes aren't kept, step by step. -/
theorem tk_is (s : Sto) (l : List Int) : tkE s l = if rgE l ≠ 0 then rgE l else if tickE s.M s.L (rgG l).t ≠ 0 then tickE s.M s.L (rgG l).t else if baseE s.L (rgG l).b ≠ 0 then baseE s.L (rgG l).b else if tkA s.L (rgG l) (rgL l) ≠ 0 then tkA s.L (rgG l) (rgL l) else lateE s.L (tkX s.L (rgG l) (rgL l)) := by
  unfold tkE stpE tickE baseE lateE
  by_cases h0 : rgE l = 0
  · rw [if_pos h0, if_neg (show ¬ rgE l ≠ 0 from fun q => q h0)]
    by_cases h1 : isS s.L (rgG l).t = true
    · rw [if_pos h1, if_pos h1, if_pos (by simp)]
    rw [if_neg h1, if_neg h1]
    by_cases h2 : s.L.length = s.M ∧ untS s.L (rgG l).t = 0
    · rw [if_pos h2, if_pos h2, if_pos (by simp)]
    rw [if_neg h2, if_neg h2, if_neg (show ¬ ((0 : Int) ≠ 0) from fun q => q rfl)]
    by_cases h3 : (rgG l).b ≠ -1 ∧ isS s.L (rgG l).b = false
    · rw [if_pos h3, if_pos h3, if_pos (by simp)]
    rw [if_neg h3, if_neg h3, if_neg (show ¬ ((0 : Int) ≠ 0) from fun q => q rfl)]
  · rw [if_neg h0, if_pos h0]
theorem tk_no {s : Sto} {l : List Int} (h : tkE s l ≠ 0) : tkT s l = 0 ∧ tkL s l = s.L := ⟨by unfold tkT; rw [if_neg h], by unfold tkL; rw [if_neg h]⟩
set_option maxHeartbeats 8000000 in
theorem st_take (w : World) (B S R : Nat) (v : Value) (rs : Rs) (s : Sto) (h : StoV w B S R v rs s) (hM : s.L.length ≤ 64) (vb : Value) (l : List Int) (hb : Bytes l) (hl : l.length ≤ 140737488355328) (hr : Rd w vb l) :
    Calls Tryz.prog 19 #[.pointer (some ⟨S, 0, none⟩), vb] w fun e w' => e = .returned (.tuple #[.int .i64 (tkT s l), .int .i64 (tkE s l)]) ∧ ∃ v' rs', StoV w' B S R v' rs' { s with L := tkL s l } ∧ Chs B S R v v' w w' := by
  obtain ⟨ab, nb, cb, rfl⟩ : ∃ ab nb cb, vb = .slice ab nb cb := by
    obtain ⟨a, c, e, _⟩ := hr
    exact ⟨_, _, _, e⟩
  have HS : Hid (StoV w B S R v rs s) := h
  have HRD : Hid (Rd w (.slice ab nb cb) l) := hr
  have IS := tk_is s l
  have NO : tkE s l ≠ 0 → tkT s l = 0 ∧ tkL s l = s.L := tk_no
  have YT : tkE s l = 0 → tkT s l = (rgG l).t ∧ tkL s l = keepS s.M s.L (tkX s.L (rgG l) (rgL l)) := fun h => ⟨by unfold tkT; rw [if_pos h], by unfold tkL; rw [if_pos h]⟩
  have H2 : ∀ w', StoV w' B S R v rs s → ∀ P PG, Blk w' P [.pointer (some ⟨S, 0, none⟩)] → ∀ c1 c2 c3, Blk w' PG [.int .i64 (rgG l).t, c1, c2, c3] → Calls Tryz.prog 28 (#[] ++ #[.pointer (some ⟨P, 0, none⟩), .pointer (some ⟨PG, 0, none⟩)]) w' fun e w'' => e = .returned (.int .i64 (tickE s.M s.L (rgG l).t)) ∧ Below w'.heap.size w' w'' := fun w' h P PG hp c1 c2 c3 hg => tk_two w' B S R v rs s h P PG hp _ c1 c2 c3 hg
  have HZ := @tick_zero s.M s.L (rgG l).t
  have H3 : ∀ w', Below w.heap.size w w' → ∀ P PG PB, Blk w' P [.pointer (some ⟨S, 0, none⟩)] → ∀ c0 c1 c3, Blk w' PG [c0, c1, .int .i64 (rgG l).b, c3] → ∀ b0 b1 b2, Blk w' PB [b0, b1, b2] → w.heap.size ≤ PB → Calls Tryz.prog 30 (#[] ++ #[.pointer (some ⟨P, 0, none⟩), .pointer (some ⟨PG, 0, none⟩), .pointer (some ⟨PB, 0, none⟩)]) w' fun e w'' => e = .returned (.int .i64 (baseE s.L (rgG l).b)) ∧ ∃ ao n c, Blk w'' PB [.int .i64 (tkB s.L (rgG l).b).t, .int .i64 (tkB s.L (rgG l).b).m, .slice ao n c] ∧ (∀ w3, Below w.heap.size w w3 → RdE w3 (.slice ao n c) (tkB s.L (rgG l).b).E.length (atE (tkB s.L (rgG l).b).E)) ∧ w'.grownBy w'' (some PB) :=
    fun w' bw P PG PB hp c0 c1 c3 hg b0 b1 b2 hB hPB => tk_three w w' B S R v rs s h bw P PG PB hp _ c0 c1 c3 hg b0 b1 b2 hB hPB
  have H4 : rgE l = 0 → ∀ w' PB PG PT aa na ca, Blk w' PB [.int .i64 (tkB s.L (rgG l).b).t, .int .i64 (tkB s.L (rgG l).b).m, .slice aa na ca] → RdE w' (.slice aa na ca) (tkB s.L (rgG l).b).E.length (atE (tkB s.L (rgG l).b).E) → ∀ ag ng cg, Blk w' PG [.int .i64 (rgG l).t, .int .i64 (rgG l).m, .int .i64 (rgG l).b, .slice ag ng cg] → RdR w' (.slice ag ng cg) (rgL l).length (atR (rgL l)) → ∀ t0 t1 t2, Blk w' PT [t0, t1, t2] →
      Calls Tryz.prog 32 (#[] ++ #[.pointer (some ⟨PB, 0, none⟩), .pointer (some ⟨PG, 0, none⟩), .pointer (some ⟨PT, 0, none⟩)]) w' fun e w'' => e = .returned (.int .i64 (tkA s.L (rgG l) (rgL l))) ∧ ∃ tt tm ao n c, (tkA s.L (rgG l) (rgL l) = 0 → tt = (tkX s.L (rgG l) (rgL l)).t ∧ tm = (tkX s.L (rgG l) (rgL l)).m) ∧ Blk w'' PT [.int .i64 tt, .int .i64 tm, .slice ao n c] ∧ OwnE w'' w'.heap.size (.slice ao n c) (tkX s.L (rgG l) (rgL l)).E ∧ w'.grownBy w'' (some PT) :=
    fun h0 w' PB PG PT aa na ca hB hra ag ng cg hg hrg t0 t1 t2 ht => by
      obtain ⟨og, orr, _⟩ := one_gram hb h0
      have c := tk_four w' PB PG PT _ _ aa na ca _ _ hB hra (rgG l) og ag ng cg _ _ orr hg hrg t0 t1 t2 ht
      rw [pre_atE] at c
      refine c.mono ?_
      rintro e w'' ⟨rfl, ao, n, c, h1, h2, h3⟩
      exact ⟨rfl, _, _, ao, n, c, fun hz => ⟨by show apT _ _ _ _ _ _ = _; unfold apT; exact if_pos hz, by show apM _ _ _ _ _ _ = _; unfold apM; exact if_pos hz⟩, h1, h2, h3⟩
  have H5 : ∀ w', StoV w' B S R v rs s → ∀ P PT, Blk w' P [.pointer (some ⟨S, 0, none⟩)] → ∀ ao n c, Blk w' PT [.int .i64 (tkX s.L (rgG l) (rgL l)).t, .int .i64 (tkX s.L (rgG l) (rgL l)).m, .slice ao n c] → Calls Tryz.prog 34 (#[] ++ #[.pointer (some ⟨P, 0, none⟩), .pointer (some ⟨PT, 0, none⟩)]) w' fun e w'' => e = .returned (.int .i64 (lateE s.L (tkX s.L (rgG l) (rgL l)))) ∧ Below w'.heap.size w' w'' := fun w' h P PT hp ao n c ht => tk_five w' B S R v rs s h hM P PT hp _ ao n c ht
  have H6 : rgE l = 0 → isS s.L (rgG l).t = false → ¬ (s.L.length = s.M ∧ untS s.L (rgG l).t = 0) → ∀ w', StoV w' B S R v rs s → ∀ P PT, Blk w' P [.pointer (some ⟨S, 0, none⟩)] → ∀ ao n c, Blk w' PT [.int .i64 (tkX s.L (rgG l) (rgL l)).t, .int .i64 (tkX s.L (rgG l) (rgL l)).m, .slice ao n c] → OwnE w' B (.slice ao n c) (tkX s.L (rgG l) (rgL l)).E → (∀ g, (Value.slice ao n c).ownBlock = some g → g ≠ S ∧ g ≠ R ∧ some g ≠ v.ownBlock) → P ≠ R ∧ some P ≠ v.ownBlock → PT ≠ R ∧ some PT ≠ v.ownBlock →
      Calls Tryz.prog 36 (#[] ++ #[.pointer (some ⟨P, 0, none⟩), .pointer (some ⟨PT, 0, none⟩)]) w' fun e w'' => e = .returned (.int .i64 0) ∧ ∃ v' rs', StoV w'' B S R v' rs' { s with L := keepS s.M s.L (tkX s.L (rgG l) (rgL l)) } ∧ Chs B S R v v' w' w'' ∧ Blk w'' PT [.int .i64 (tkX s.L (rgG l) (rgL l)).t, .int .i64 (tkX s.L (rgG l) (rgL l)).m, .slice ao n c] :=
    fun h0 h1 h2 w' h P PT hp ao n c ht hx ha nP nT => tk_six w' B S R v rs s h P PT hp (tkX s.L (rgG l) (rgL l)) (by have := (one_gram hb h0).1.t; unfold S64 at this; exact ⟨this.1, by have := this.2; show (rgG l).t ≤ _; omega⟩) ao n c ht hx ha h1 h2 nP nT
  have XT : (tkX s.L (rgG l) (rgL l)).t = (rgG l).t := rfl
  have H1 : ∀ w' P PG, Blk w' P [.slice ab nb cb] → Rd w' (.slice ab nb cb) l → ∀ c0 c1 c2 c3, Blk w' PG [c0, c1, c2, c3] → Calls Tryz.prog 26 (#[] ++ #[.pointer (some ⟨P, 0, none⟩), .pointer (some ⟨PG, 0, none⟩)]) w' fun e w'' => e = .returned (.int .i64 (rgE l)) ∧ ∃ ao n c, Blk w'' PG [.int .i64 (rgG l).t, .int .i64 (rgG l).m, .int .i64 (rgG l).b, .slice ao n c] ∧ OwnR w'' w'.heap.size (.slice ao n c) (rgL l) ∧ w'.grownBy w'' (some PG) := fun w' P PG hp hr c0 c1 c2 c3 hg => tk_one w' P PG _ l hb hl hp hr c0 c1 c2 c3 hg
  -- letters
  obtain ⟨E1, hE1⟩ : ∃ x, rgE l = x := ⟨_, rfl⟩
  obtain ⟨G, hG⟩ : ∃ x, rgG l = x := ⟨_, rfl⟩
  obtain ⟨RL, hRL⟩ : ∃ x, rgL l = x := ⟨_, rfl⟩
  rw [hE1, hG, hRL] at IS
  rw [hG, hRL] at YT H5 XT
  rw [hE1, hG, hRL] at H4 H6 H1
  rw [hG] at H2 H3 HZ
  obtain ⟨E2, hE2⟩ : ∃ x, tickE s.M s.L G.t = x := ⟨_, rfl⟩
  obtain ⟨E3, hE3⟩ : ∃ x, baseE s.L G.b = x := ⟨_, rfl⟩
  obtain ⟨E4, hE4⟩ : ∃ x, tkA s.L G RL = x := ⟨_, rfl⟩
  obtain ⟨X, hX⟩ : ∃ x, tkX s.L G RL = x := ⟨_, rfl⟩
  obtain ⟨E5, hE5⟩ : ∃ x, lateE s.L (tkX s.L G RL) = x := ⟨_, rfl⟩
  obtain ⟨TB, hTB⟩ : ∃ x, tkB s.L G.b = x := ⟨_, rfl⟩
  rw [hE5] at IS H5
  rw [hE2, hE3, hE4] at IS
  rw [hE2] at H2 HZ
  rw [hE3, hTB] at H3
  rw [hE4, hX, hTB] at H4
  rw [hX] at H5 H6 YT XT
  obtain ⟨TE, hTE⟩ : ∃ x, tkE s l = x := ⟨_, rfl⟩
  obtain ⟨TT, hTT⟩ : ∃ x, tkT s l = x := ⟨_, rfl⟩
  obtain ⟨TL, hTL⟩ : ∃ x, tkL s l = x := ⟨_, rfl⟩
  rw [hTE] at IS
  rw [hTE, hTT, hTL] at NO YT
  rw [hTE, hTT, hTL]
  have HH1 : Hid _ := H1
  have HH2 : Hid _ := H2
  have HH3 : Hid _ := H3
  have HH4 : Hid _ := H4
  have HH5 : Hid _ := H5
  have HH6 : Hid _ := H6
  have HHZ : Hid _ := HZ
  have HIS : Hid _ := IS
  have HNO : Hid _ := NO
  have HYT : Hid _ := YT
  have HXT : Hid _ := XT
  obtain ⟨gt, gm, gb⟩ := G
  obtain ⟨bt, bm, bE⟩ := TB
  clear H1 H2 H3 H4 H5 H6 HZ IS NO YT XT hE1 hG hRL hE2 hE3 hE4 hX hE5 hTB hTE hTT hTL hr hb
  have hSl := h.blk.lt
  have hRl := h.rng.blk.lt
  have hvl : ∀ g, v.ownBlock = some g → g < w.heap.size := fun g hg => (h.rng.own.lt g hg).2
  have hBl : B ≤ w.heap.size := Nat.le_trans h.le (Nat.le_of_lt hSl)
  clear h
  go_enter Tryz.func19, Tryz.ntmps19
  go_upto_region 4 with fail
  generalize hW : (((((w.alloc (.cells #[.pointer (some ⟨S, 0, none⟩)] 23)).alloc (.cells #[.slice ab nb cb] 32)).alloc (.cells #[.int .i64 0, .int .i64 0, .int .i64 0, .slice none 0 0] 61)).alloc (.cells #[.int .i64 0, .int .i64 0, .slice none 0 0] 45)).alloc (.cells #[.int .i64 0, .int .i64 0, .slice none 0 0] 45)).alloc (.cells #[_, _, _, _, _, _] _) = W
  obtain ⟨A0, P0, G0, T0, X0, F0, b0⟩ := boxed6 hW
  obtain ⟨H, hH⟩ : ∃ H, w.heap.size = H := ⟨_, rfl⟩
  have HH : Hid (w.heap.size = H) := hH
  have S0 : Hid (StoV W B S R v rs s) := HS.out.below b0
  have R0 : Hid (Rd W (.slice ab nb cb) l) := HRD.out.below b0
  rw [hH] at A0 P0 G0 T0 X0 F0 b0 hSl hRl hvl hBl
  rw [hH]
  clear hW hH
  have f0 := F0.cell 0 _ rfl
  have f1 := F0.cell 1 _ rfl
  have f2 := F0.cell 2 _ rfl
  have f3 := F0.cell 3 _ rfl
  have f4 := F0.cell 4 _ rfl
  have f5 := F0.cell 5 _ rfl
  have lF := F0.lt
  have hHW : H ≤ W.heap.size := by omega
  have ix0 := idx0
  have ix1 := idx1
  have ix2 := idx2
  have ix3 := idx3
  have ix4 := idx4
  have ix5 := idx5
  go_wp2_with fail
  refine wp_loop_rounds 7 ?_
  rw [rounds_succ]
  go_wp2_with fail
  refine (HH1.out W (H + 1) (H + 1 + 1) P0 R0.out _ _ _ _ G0).mono ?_; rintro e w1 ⟨rfl, ag, ng, cg, G1, r1, y1⟩
  have A1 := A0.by_ y1 (fun e => by injection e with e; omega)
  have T1 := T0.by_ y1 (fun e => by injection e with e; omega)
  have X1 := X0.by_ y1 (fun e => by injection e with e; omega)
  have B1 : Below H w w1 := below_of b0 y1 hHW (by omega)
  obtain ⟨K1, hK1⟩ : ∃ K, W.heap.size = K := ⟨_, rfl⟩
  have hKF : H + 1 + 1 + 1 + 1 + 1 < K1 := by rw [← hK1]; exact lF
  rw [hK1] at r1
  have RG1 : Hid (OwnR w1 K1 (.slice ag ng cg) RL) := r1
  clear hK1
  clear A0 P0 G0 T0 X0 F0 b0 S0 R0 f0 f1 f2 f3 f4 f5 lF hHW r1 y1
  by_cases z1 : E1 = 0
  · subst z1
    go_wp2_with fail
    rw [rounds_succ]
    go_wp2_with fail
    refine (HH2.out w1 (HS.out.below (by rw [HH.out]; exact B1)) H (H + 1 + 1) A1 _ _ _ G1).mono ?_; rintro e w2 ⟨rfl, b2⟩
    have A2 := A1.below b2 A1.lt
    have G2 := G1.below b2 G1.lt
    have T2 := T1.below b2 T1.lt
    have X2 := X1.below b2 X1.lt
    have B2 := bup B1 (Nat.le_of_eq HH.out.symm) b2
    have RG2 : Hid (OwnR w2 K1 (.slice ag ng cg) RL) := RG1.out.below b2
    clear A1 G1 T1 X1 B1 RG1 b2
    by_cases z2 : E2 = 0
    · subst z2
      obtain ⟨q1, q2⟩ := HHZ.out (by trivial)
      go_wp2_with fail
      rw [rounds_succ]
      go_wp2_with fail
      refine (HH3.out w2 (by rw [HH.out]; exact B2) H (H + 1 + 1) (H + 1 + 1 + 1) A2 _ _ _ G2 _ _ _ T2 (by rw [HH.out]; omega)).mono ?_; rintro e w3 ⟨rfl, ae, ne, ce, T3, rb, y3⟩
      have hH2 : H ≤ w2.heap.size := by have := A2.lt; omega
      have A3 := A2.by_ y3 (fun e => by injection e with e; omega)
      have G3 := G2.by_ y3 (fun e => by injection e with e; omega)
      have X3 := X2.by_ y3 (fun e => by injection e with e; omega)
      have B3 : Below H w w3 := below_of B2 y3 hH2 (by omega)
      have RG3 : Hid (OwnR w3 K1 (.slice ag ng cg) RL) := OwnR.by_ RG2.out y3 (ne_own RG2.out (by omega))
      have RB : Hid (∀ w'', Below w.heap.size w w'' → RdE w'' (.slice ae ne ce) bE.length (atE bE)) := rb
      clear A2 G2 T2 X2 B2 RG2 y3 rb hH2
      by_cases z3 : E3 = 0
      · subst z3
        go_wp2_with fail
        rw [rounds_succ]
        go_wp2_with fail
        refine (HH4.out (by trivial) w3 (H + 1 + 1 + 1) (H + 1 + 1) (H + 1 + 1 + 1 + 1) ae ne ce T3 (RB.out _ (by rw [HH.out]; exact B3)) ag ng cg G3 RG3.out.atR _ _ _ X3).mono ?_; rintro e w4 ⟨rfl, tt, tm, ax, nx, cx, hx, X4, o4, y4⟩
        have hH3 : H ≤ w3.heap.size := by have := A3.lt; omega
        have hX3 := X3.lt
        have A4 := A3.by_ y4 (fun e => by injection e with e; omega)
        have B4 : Below H w w4 := below_of B3 y4 hH3 (by omega)
        obtain ⟨K3, hK3⟩ : ∃ K, w3.heap.size = K := ⟨_, rfl⟩
        rw [hK3] at o4 hX3
        have O4 : Hid (OwnE w4 K3 (.slice ax nx cx) X.E) := o4
        clear A3 G3 T3 X3 B3 RG3 RB y4 o4 hK3 hH3
        by_cases z4 : E4 = 0
        · subst z4
          obtain ⟨e1, e2⟩ := hx (by trivial)
          subst e1 e2
          clear hx
          go_wp2_with fail
          rw [rounds_succ]
          go_wp2_with fail
          refine (HH5.out w4 (HS.out.below (by rw [HH.out]; exact B4)) H (H + 1 + 1 + 1 + 1) A4 ax nx cx X4).mono ?_; rintro e w5 ⟨rfl, b5⟩
          have A5 := A4.below b5 A4.lt
          have X5 := X4.below b5 X4.lt
          have B5 := bup B4 (Nat.le_of_eq HH.out.symm) b5
          have O5 : Hid (OwnE w5 K3 (.slice ax nx cx) X.E) := O4.out.below b5
          clear A4 X4 B4 O4 b5
          by_cases z5 : E5 = 0
          · subst z5
            go_wp2_with fail
            rw [rounds_succ]
            go_wp2_with fail
            refine (HH6.out (by trivial) q1 q2 w5 (HS.out.below (by rw [HH.out]; exact B5)) H (H + 1 + 1 + 1 + 1) A5 ax nx cx X5 (O5.out.mono (by omega)) (fun g hg => by
              have h1 := (O5.out.lt g hg).1
              exact ⟨by omega, by omega, fun e => by have := hvl g e.symm; omega⟩) ⟨by omega, fun e => by have := hvl _ e.symm; omega⟩ ⟨by omega, fun e => by have := hvl _ e.symm; omega⟩).mono ?_; rintro e w6 ⟨rfl, v6, rs6, S6, C6, X6⟩
            have x60 := X6.cell 0 _ rfl
            have eT : TE = 0 := HIS.out.trans (by rw [if_neg (show ¬ ((0 : Int) ≠ 0) from fun q => q rfl), if_neg (show ¬ ((0 : Int) ≠ 0) from fun q => q rfl), if_neg (show ¬ ((0 : Int) ≠ 0) from fun q => q rfl), if_neg (show ¬ ((0 : Int) ≠ 0) from fun q => q rfl)])
            obtain ⟨n1, n2⟩ := HYT.out eT
            have xt := HXT.out
            try simp only at n1 xt
            have HS6 : Hid (StoV w6 B S R v6 rs6 { s with L := keepS s.M s.L X } ∧ Chs B S R v v6 w5 w6) := ⟨S6, C6⟩
            clear S6 C6
            rw [xt] at x60
            subst eT n1 n2
            go_wp2_with fail
            rw [rounds_succ]
            go_wp2_with fail
            go_ret2
            exact ⟨rfl, v6, rs6, HS6.out.1, (Chs.of_below (by rw [HH.out]; exact B5) (by rw [HH.out]; exact hBl)).trans HS6.out.2⟩
          · have q5 : (E5 != 0) = true := by simpa using z5
            have eT : TE = E5 := HIS.out.trans (by rw [if_neg (show ¬ ((0 : Int) ≠ 0) from fun q => q rfl), if_neg (show ¬ ((0 : Int) ≠ 0) from fun q => q rfl), if_neg (show ¬ ((0 : Int) ≠ 0) from fun q => q rfl), if_neg (show ¬ ((0 : Int) ≠ 0) from fun q => q rfl)])
            obtain ⟨n1, n2⟩ := HNO.out (by rw [eT]; exact z5)
            subst eT n1 n2
            go_wp2_with fail
            go_ret2
            exact ⟨rfl, v, rs, HS.out.below (by rw [HH.out]; exact B5), Chs.of_below (by rw [HH.out]; exact B5) (by rw [HH.out]; exact hBl)⟩
        · have q4 : (E4 != 0) = true := by simpa using z4
          have eT : TE = E4 := HIS.out.trans (by rw [if_neg (show ¬ ((0 : Int) ≠ 0) from fun q => q rfl), if_neg (show ¬ ((0 : Int) ≠ 0) from fun q => q rfl), if_neg (show ¬ ((0 : Int) ≠ 0) from fun q => q rfl), if_pos z4])
          obtain ⟨n1, n2⟩ := HNO.out (by rw [eT]; exact z4)
          subst eT n1 n2
          go_wp2_with fail
          go_ret2
          exact ⟨rfl, v, rs, HS.out.below (by rw [HH.out]; exact B4), Chs.of_below (by rw [HH.out]; exact B4) (by rw [HH.out]; exact hBl)⟩
      · have q3 : (E3 != 0) = true := by simpa using z3
        have eT : TE = E3 := HIS.out.trans (by rw [if_neg (show ¬ ((0 : Int) ≠ 0) from fun q => q rfl), if_neg (show ¬ ((0 : Int) ≠ 0) from fun q => q rfl), if_pos z3])
        obtain ⟨n1, n2⟩ := HNO.out (by rw [eT]; exact z3)
        subst eT n1 n2
        go_wp2_with fail
        go_ret2
        exact ⟨rfl, v, rs, HS.out.below (by rw [HH.out]; exact B3), Chs.of_below (by rw [HH.out]; exact B3) (by rw [HH.out]; exact hBl)⟩
    · have q2 : (E2 != 0) = true := by simpa using z2
      have eT : TE = E2 := HIS.out.trans (by rw [if_neg (show ¬ ((0 : Int) ≠ 0) from fun q => q rfl), if_pos z2])
      obtain ⟨n1, n2⟩ := HNO.out (by rw [eT]; exact z2)
      subst eT n1 n2
      go_wp2_with fail
      go_ret2
      exact ⟨rfl, v, rs, HS.out.below (by rw [HH.out]; exact B2), Chs.of_below (by rw [HH.out]; exact B2) (by rw [HH.out]; exact hBl)⟩
  · have q1 : (E1 != 0) = true := by simpa using z1
    have eT : TE = E1 := HIS.out.trans (if_pos z1)
    obtain ⟨n1, n2⟩ := HNO.out (by rw [eT]; exact z1)
    subst eT n1 n2
    go_wp2_with fail
    go_ret2
    exact ⟨rfl, v, rs, HS.out.below (by rw [HH.out]; exact B1), Chs.of_below (by rw [HH.out]; exact B1) (by rw [HH.out]; exact hBl)⟩
end Go.Proofs.YtlpdhglibgnkoaaGreat

namespace Go.Proofs.YtlpdhglibgnkoaaGreat
open Go.RowKit
set_option linter.unusedVariables false
set_option maxRecDepth 20000

set_option maxHeartbeats 2000000 in
theorem st_accept (w : World) (B S R : Nat) (v : Value) (rs : Rs) (s : Sto) (h : StoV w B S R v rs s) (hM : s.L.length ≤ 64) (vb : Value) (l : List Int) (hb : Bytes l) (hl : l.length ≤ 140737488355328) (hr : Rd w vb l) :
    Calls Tryz.prog 9 #[.pointer (some ⟨S, 0, none⟩), vb] w fun e w' => e = .returned (.tuple #[.int .i64 (tkT s l), .int .i64 (tkE s l)]) ∧ ∃ v' rs', StoV w' B S R v' rs' (accS s l) ∧ Chs B S R v v' w w' := by
  have HT : Hid (Calls Tryz.prog 19 #[.pointer (some ⟨S, 0, none⟩), vb] w fun e w' => e = .returned (.tuple #[.int .i64 (tkT s l), .int .i64 (tkE s l)]) ∧ ∃ v' rs', StoV w' B S R v' rs' { s with L := tkL s l } ∧ Chs B S R v v' w w') := st_take w B S R v rs s h hM vb l hb hl hr
  have eb := eb_acc s l
  have HAS : Hid (∀ n : Nat, tkE s l = n → accS s l = { { s with L := tkL s l } with N := incN s.N n }) := fun n hn => by unfold accS; rw [hn]
  obtain ⟨n, hn⟩ : ∃ n : Nat, tkE s l = n := ⟨(tkE s l).toNat, by have := eb.1; omega⟩
  have hA := HAS.out n hn
  rw [hA]
  rw [hn] at HT
  rw [hn]
  have hn17 : n < 18 := by have := eb.2; omega
  obtain ⟨TT, hTT⟩ : ∃ x, tkT s l = x := ⟨_, rfl⟩
  obtain ⟨s', hs'⟩ : ∃ x : Sto, { s with L := tkL s l } = x := ⟨_, rfl⟩
  have hN : s.N = s'.N := by rw [← hs']
  rw [hTT, hs'] at HT
  rw [hTT, hs', hN]
  have hBS := h.le
  clear hA HAS eb hn hTT hs' hN h hr hb
  go_enter Tryz.func9, Tryz.ntmps9
  go_wp2_with fail
  refine HT.out.mono ?_; rintro e w1 ⟨rfl, v1, rs1, S1, C1⟩
  obtain ⟨k1, K1⟩ := S1.count n hn17
  obtain ⟨x, hx⟩ : ∃ x, s'.N.getD n 0 = x := ⟨_, rfl⟩
  rw [hx] at k1 K1
  have z1 := S1.blk.froz (2 + n)
  have HK : Hid (StoV (w1.setCell ⟨S, 2 + n, none⟩ (.int .i64 (IntKind.i64.wrap (x + 1)))) B S R v1 rs1 { s' with N := incN s'.N n }) := K1
  have HC : Hid (Chs B S R v v1 w w1) := C1
  have hlt := S1.blk.lt
  have d1 : decide ((0 : Int) ≤ (n : Int)) = true := by simp
  have d2 : decide ((n : Int) < 18) = true := by simp; omega
  have d3 : (n : Int) < 18 := by omega
  clear HT S1 C1 K1 hx
  go_wp2_with fail
  go_region_with (fail)
  all_goals (go_wp2_with fail)
  all_goals go_ret2
  all_goals exact ⟨rfl, v1, rs1, HK.out.drewN 1, (HC.out.trans (Chs.set hBS)).drewN 1⟩
end Go.Proofs.YtlpdhglibgnkoaaGreat
