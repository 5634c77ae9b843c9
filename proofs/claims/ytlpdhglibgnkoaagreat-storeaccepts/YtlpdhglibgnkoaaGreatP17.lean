/-
  Texts Gm1, Gm2, Gm3, Gm4, Gm5 in one.
-/
import Derived.Deep.RegionHeld3
import Derived.Test.YtlpdhglibgnkoaaGreatP16
namespace Go.Proofs.YtlpdhglibgnkoaaGreat
open Go.RowKit
set_option linter.unusedVariables false

/-! what goes ahead of the records -/
structure Gm where
  t : Int
  m : Int
  b : Int
structure Gm.ok (g : Gm) : Prop where
  t : S64 g.t
  m : S64 g.m
  b : S64 g.b
@[reducible] def gmV (g : Gm) (v : Value) : Value := .agg #[.int .i64 g.t, .int .i64 g.m, .int .i64 g.b, v]
@[reducible] def gmA (g : Gm) (v : Value) : Array Value := #[.int .i64 g.t, .int .i64 g.m, .int .i64 g.b, v]
@[reducible] def gmC (g : Gm) (v : Value) : List Value := [.int .i64 g.t, .int .i64 g.m, .int .i64 g.b, v]
def timB (x : Int) : Bool := decide (-2305843009213693952 ≤ x) && decide (x ≤ 2305843009213693952)
def hedE (g : Gm) (n : Nat) : Int :=
  if g.t < 0 ∨ 4294967295 < g.t ∨ timB g.m = false ∨ g.b < -1 then 3 else if g.t ≤ g.b then 10 else if 128 < n then 8 else 0
def bkI (g : Gm) : Int := if g.b = -1 then 0 else g.t - g.b
def hedB (g : Gm) (n : Nat) : List Int := [71, 1] ++ put g.t ++ put (zig g.m) ++ put (bkI g) ++ put (n : Int)
theorem hed_ok {g : Gm} {n : Nat} (h : hedE g n = 0) : 0 ≤ g.t ∧ g.t ≤ 4294967295 ∧ -2305843009213693952 ≤ g.m ∧ g.m ≤ 2305843009213693952 ∧ -1 ≤ g.b ∧ g.b < g.t ∧ n ≤ 128 := by
  unfold hedE timB at h
  split at h
  · omega
  · rename_i h1
    split at h
    · omega
    · split at h
      · omega
      · simp only [Bool.and_eq_false_iff, decide_eq_false_iff_not] at h1
        omega
theorem bk_bd {g : Gm} {n : Nat} (h : hedE g n = 0) : 0 ≤ bkI g ∧ bkI g ≤ 4294967295 ∧ bkI g ≤ g.t := by
  have := hed_ok h
  unfold bkI
  split <;> omega
theorem zig_u64 {x : Int} (h : R64 x) : 0 ≤ zig x ∧ zig x ≤ 18446744073709551615 := by
  unfold R64 at h
  unfold zig
  omega
theorem hedB_len {g : Gm} {n : Nat} (h : hedE g n = 0) : (hedB g n).length ≤ 42 := by
  have := hed_ok h
  have b := bk_bd h
  have z := zig_u64 (x := g.m) (by unfold R64; omega)
  have p1 := put_ten (x := g.t) (by omega) (by omega)
  have p2 := put_ten (x := zig g.m) (by omega) (by omega)
  have p3 := put_ten (x := bkI g) (by omega) (by omega)
  have p4 := put_ten (x := (n : Int)) (by omega) (by omega)
  unfold hedB
  simp only [List.length_append, List.length_cons, List.length_nil]
  omega
theorem hedB_ok {g : Gm} {n : Nat} (h : hedE g n = 0) : Bytes (hedB g n) := by
  have := hed_ok h
  have b := bk_bd h
  have z := zig_u64 (x := g.m) (by unfold R64; omega)
  unfold hedB
  refine ((((Bytes.append ?_ (put_ok (by omega))).append (put_ok (by omega))).append (put_ok (by omega))).append (put_ok (by omega)))
  intro c hc
  simp at hc
  omega

/-! the records, by their index -/
def pre (A : Nat → Rc) (k : Nat) : List Rc := (List.range k).map A
theorem pre_zero (A : Nat → Rc) : pre A 0 = [] := rfl
theorem pre_succ (A : Nat → Rc) (k : Nat) : pre A (k + 1) = pre A k ++ [A k] := by unfold pre; rw [List.range_succ, List.map_append]; rfl
theorem pre_len (A : Nat → Rc) (k : Nat) : (pre A k).length = k := by unfold pre; simp
/-- The error of the first record that has one, each behind the one ahead. -/
def firE : Int → List Rc → Int
  | _, [] => 0
  | last, r :: rs => if wrE r last = 0 then firE r.i rs else wrE r last
theorem fir_chain : ∀ (L : List Rc) (last : Int), chainR last L → firE last L = 0
  | [], _, _ => rfl
  | r :: rs, last, h => by
    obtain ⟨_, h2, h3⟩ := h
    show (if wrE r last = 0 then firE r.i rs else wrE r last) = 0
    rw [if_pos h2]
    exact fir_chain rs r.i h3
theorem chain_fir : ∀ (L : List Rc) (last : Int), (∀ r ∈ L, r.ok) → firE last L = 0 → chainR last L
  | [], _, _, _ => trivial
  | r :: rs, last, hk, h => by
    have h' : (if wrE r last = 0 then firE r.i rs else wrE r last) = 0 := h
    by_cases hw : wrE r last = 0
    · rw [if_pos hw] at h'
      exact ⟨hk r (by simp), hw, chain_fir rs r.i (fun x hx => hk x (by simp [hx])) h'⟩
    · rw [if_neg hw] at h'
      exact absurd h' hw
theorem fir_at : ∀ (L : List Rc) (last : Int) (r : Rc) (rs : List Rc), chainR last L → wrE r (lastR last L) ≠ 0 → firE last (L ++ r :: rs) = wrE r (lastR last L)
  | [], last, r, rs, _, h => by
    show (if wrE r last = 0 then firE r.i rs else wrE r last) = wrE r last
    exact if_neg h
  | x :: L, last, r, rs, hc, h => by
    obtain ⟨_, h2, h3⟩ := hc
    show (if wrE x last = 0 then firE x.i (L ++ r :: rs) else wrE x last) = wrE r (lastR x.i L)
    rw [if_pos h2]
    exact fir_at L x.i r rs h3 h
theorem pre_split (A : Nat → Rc) {k n : Nat} (h : k < n) : ∃ rs, pre A n = pre A k ++ A k :: rs := by
  obtain ⟨d, rfl⟩ : ∃ d, n = k + 1 + d := ⟨n - (k + 1), by omega⟩
  induction d with
  | zero => exact ⟨[], pre_succ A k⟩
  | succ d ih =>
    obtain ⟨rs, e⟩ := ih (by omega)
    exact ⟨rs ++ [A (k + 1 + d)], by rw [show k + 1 + (d + 1) = k + 1 + d + 1 by omega, pre_succ, e]; simp⟩
theorem fir_pre {A : Nat → Rc} {k n : Nat} (h : k < n) (hc : chainR (-1) (pre A k)) (he : wrE (A k) (lastR (-1) (pre A k)) ≠ 0) : firE (-1) (pre A n) = wrE (A k) (lastR (-1) (pre A k)) := by
  obtain ⟨rs, e⟩ := pre_split A h
  rw [e]
  exact fir_at _ _ _ _ hc he

/-! the whole -/
def gmE (g : Gm) (A : Nat → Rc) (n : Nat) : Int := if hedE g n = 0 then firE (-1) (pre A n) else hedE g n
def gmB (g : Gm) (A : Nat → Rc) (n : Nat) : List Int := hedB g n ++ encR (-1) (pre A n)
def bodB (g : Gm) (A : Nat → Rc) (n : Nat) : List Int := if gmE g A n = 0 then gmB g A n else []
def wrtE (g : Gm) (A : Nat → Rc) (n : Nat) : Int := if gmE g A n = 0 then (if 4096 < (gmB g A n).length + 4 then 8 else 0) else gmE g A n
def wrtB (g : Gm) (A : Nat → Rc) (n : Nat) : List Int := if wrtE g A n = 0 then sealed (gmB g A n) else []
theorem gm_head {g : Gm} {A : Nat → Rc} {n : Nat} (h : gmE g A n = 0) : hedE g n = 0 := by
  unfold gmE at h
  split at h <;> omega
theorem gm_chain {g : Gm} {A : Nat → Rc} {n : Nat} (ok : ∀ i, i < n → (A i).ok) (h : gmE g A n = 0) : chainR (-1) (pre A n) := by
  have h1 := gm_head h
  unfold gmE at h
  rw [if_pos h1] at h
  refine chain_fir _ _ (fun r hr => ?_) h
  unfold pre at hr
  obtain ⟨i, hi, rfl⟩ := List.mem_map.1 hr
  exact ok i (List.mem_range.1 hi)
theorem gmB_ok {g : Gm} {A : Nat → Rc} {n : Nat} (ok : ∀ i, i < n → (A i).ok) (h : gmE g A n = 0) : Bytes (gmB g A n) ∧ (gmB g A n).length ≤ 8746 := by
  have h1 := gm_head h
  have c := chainR_ok _ _ (gm_chain ok h)
  have := hedB_len h1
  have := hed_ok h1
  rw [pre_len] at c
  refine ⟨(hedB_ok h1).append c.1, ?_⟩
  unfold gmB
  rw [List.length_append]
  omega
theorem bodB_ok {g : Gm} {A : Nat → Rc} {n : Nat} (ok : ∀ i, i < n → (A i).ok) : Bytes (bodB g A n) ∧ (bodB g A n).length ≤ 8746 := by
  unfold bodB
  split
  · rename_i h
    exact gmB_ok ok h
  · exact ⟨fun c hc => by simp at hc, by simp⟩
theorem wrt_ok {g : Gm} {A : Nat → Rc} {n : Nat} (h : wrtE g A n = 0) : gmE g A n = 0 ∧ (gmB g A n).length + 4 ≤ 4096 := by
  unfold wrtE at h
  split at h
  · rename_i h1
    refine ⟨h1, ?_⟩
    split at h <;> omega
  · rename_i h1
    exact absurd h h1
end Go.Proofs.YtlpdhglibgnkoaaGreat

namespace Go.Proofs.YtlpdhglibgnkoaaGreat
open Go.RowKit
set_option linter.unusedVariables false
set_option maxRecDepth 8000

theorem gm_time (w : World) (x : Int) : Calls Tryz.prog 99 #[.int .i64 x] w fun e w' => e = .returned (.bool (timB x)) ∧ w' = w := by
  have ht : Hid (timB x = (decide (-2305843009213693952 ≤ x) && decide (x ≤ 2305843009213693952))) := rfl
  by_cases h1 : -2305843009213693952 ≤ x
  · by_cases h2 : x ≤ 2305843009213693952
    · go_enter Tryz.func99, Tryz.ntmps99
      go_wp2_with fail
      go_ret
      exact ⟨by rw [ht.out]; simp [h1, h2], rfl⟩
    · go_enter Tryz.func99, Tryz.ntmps99
      go_wp2_with fail
      go_ret
      exact ⟨by rw [ht.out]; simp [h1, h2], rfl⟩
  · go_enter Tryz.func99, Tryz.ntmps99
    go_wp2_with fail
    go_ret
    exact ⟨by rw [ht.out]; simp; omega, rfl⟩
theorem gm_back (w : World) (g : Gm) (v : Value) (n : Nat) (h : hedE g n = 0) : Calls Tryz.prog 101 #[gmV g v] w fun e w' => e = .returned (.int .u64 (bkI g)) ∧ Below w.heap.size w w' := by
  have HB : Hid (0 ≤ bkI g ∧ bkI g ≤ 4294967295 ∧ bkI g ≤ g.t) := bk_bd h
  have HO := hed_ok h
  have HK : Hid (bkI g = if g.b = -1 then 0 else g.t - g.b) := rfl
  obtain ⟨t, m, b⟩ := g
  simp only at HO
  obtain ⟨o1, o2, o3, o4, o5, o6, o7⟩ := HO
  clear h
  by_cases hb : b = -1
  · subst hb
    go_enter Tryz.func101, Tryz.ntmps101
    go_wp2_with fail
    go_ret
    exact ⟨rfl, (Below.refl _ _).alloc (Nat.le_refl _) _⟩
  · go_enter Tryz.func101, Tryz.ntmps101
    go_wp2_with fail
    go_ret
    refine ⟨?_, (Below.refl _ _).alloc (Nat.le_refl _) _⟩
    rw [HK.out]
    simp only [if_neg hb]
    first | rfl | (congr; omega) | skip
theorem gm_check (w : World) (g : Gm) (ok : g.ok) (ao : Option Addr) (n cap : Nat) (hn : n ≤ cap) (hc : cap ≤ 9223372036854775807) :
    Calls Tryz.prog 67 #[gmV g (.slice ao n cap)] w fun e w' => e = .returned (.int .i64 (hedE g n)) ∧ Below w.heap.size w w' := by
  have HE : Hid (hedE g n = if g.t < 0 ∨ 4294967295 < g.t ∨ timB g.m = false ∨ g.b < -1 then 3 else if g.t ≤ g.b then 10 else if 128 < n then 8 else 0) := rfl
  have HT := ok.t
  have HM := ok.m
  have HBB := ok.b
  obtain ⟨t, m, b⟩ := g
  simp only at HT HM HBB
  obtain ⟨t0, t1⟩ := HT
  obtain ⟨b0, b1⟩ := HBB
  obtain ⟨tb, htb⟩ : ∃ x, timB m = x := ⟨_, rfl⟩
  have HTB : Hid (timB m = tb) := htb
  clear HM htb ok
  by_cases c1 : t < 0
  · have EV : Hid (hedE ⟨t, m, b⟩ n = 3) := (HE.out.trans (if_pos (Or.inl c1)) : hedE ⟨t, m, b⟩ n = 3)
    clear HE
    go_enter Tryz.func67, Tryz.ntmps67
    go_wp2_with (go_at_call 99; refine (gm_time _ _).mono ?_; rw [HTB.out]; rintro e w1 ⟨rfl, rfl⟩)
    go_ret
    exact ⟨by rw [EV.out]; rfl, (Below.refl _ _).alloc (Nat.le_refl _) _⟩
  by_cases c2 : 4294967295 < t
  · have EV : Hid (hedE ⟨t, m, b⟩ n = 3) := (HE.out.trans (if_pos (Or.inr (Or.inl c2))) : hedE ⟨t, m, b⟩ n = 3)
    clear HE
    go_enter Tryz.func67, Tryz.ntmps67
    go_wp2_with (go_at_call 99; refine (gm_time _ _).mono ?_; rw [HTB.out]; rintro e w1 ⟨rfl, rfl⟩)
    go_ret
    exact ⟨by rw [EV.out]; rfl, (Below.refl _ _).alloc (Nat.le_refl _) _⟩
  cases tb
  · have EV : Hid (hedE ⟨t, m, b⟩ n = 3) := (HE.out.trans (if_pos (Or.inr (Or.inr (Or.inl HTB.out)))) : hedE ⟨t, m, b⟩ n = 3)
    clear HE
    go_enter Tryz.func67, Tryz.ntmps67
    go_wp2_with (go_at_call 99; refine (gm_time _ _).mono ?_; rw [HTB.out]; rintro e w1 ⟨rfl, rfl⟩)
    go_ret
    exact ⟨by rw [EV.out]; rfl, (Below.refl _ _).alloc (Nat.le_refl _) _⟩
  by_cases c3 : b < -1
  · have EV : Hid (hedE ⟨t, m, b⟩ n = 3) := (HE.out.trans (if_pos (Or.inr (Or.inr (Or.inr c3)))) : hedE ⟨t, m, b⟩ n = 3)
    clear HE
    go_enter Tryz.func67, Tryz.ntmps67
    go_wp2_with (go_at_call 99; refine (gm_time _ _).mono ?_; rw [HTB.out]; rintro e w1 ⟨rfl, rfl⟩)
    go_ret
    exact ⟨by rw [EV.out]; rfl, (Below.refl _ _).alloc (Nat.le_refl _) _⟩
  have NO : Hid (¬ (t < 0 ∨ 4294967295 < t ∨ timB m = false ∨ b < -1)) := (by rw [HTB.out]; simp; omega : ¬ (t < 0 ∨ 4294967295 < t ∨ timB m = false ∨ b < -1))
  by_cases c4 : t ≤ b
  · have EV : Hid (hedE ⟨t, m, b⟩ n = 10) := (HE.out.trans ((if_neg NO.out).trans (if_pos c4)) : hedE ⟨t, m, b⟩ n = 10)
    clear HE
    go_enter Tryz.func67, Tryz.ntmps67
    go_wp2_with (go_at_call 99; refine (gm_time _ _).mono ?_; rw [HTB.out]; rintro e w1 ⟨rfl, rfl⟩)
    go_ret
    exact ⟨by rw [EV.out]; rfl, (Below.refl _ _).alloc (Nat.le_refl _) _⟩
  by_cases c5 : 128 < n
  · have EV : Hid (hedE ⟨t, m, b⟩ n = 8) := (HE.out.trans ((if_neg NO.out).trans ((if_neg c4).trans (if_pos c5))) : hedE ⟨t, m, b⟩ n = 8)
    clear HE
    go_enter Tryz.func67, Tryz.ntmps67
    go_wp2_with (go_at_call 99; refine (gm_time _ _).mono ?_; rw [HTB.out]; rintro e w1 ⟨rfl, rfl⟩)
    go_ret
    exact ⟨by rw [EV.out]; rfl, (Below.refl _ _).alloc (Nat.le_refl _) _⟩
  · have EV : Hid (hedE ⟨t, m, b⟩ n = 0) := (HE.out.trans ((if_neg NO.out).trans ((if_neg c4).trans (if_neg c5))) : hedE ⟨t, m, b⟩ n = 0)
    clear HE
    go_enter Tryz.func67, Tryz.ntmps67
    go_wp2_with (go_at_call 99; refine (gm_time _ _).mono ?_; rw [HTB.out]; rintro e w1 ⟨rfl, rfl⟩)
    go_ret
    exact ⟨by rw [EV.out]; rfl, (Below.refl _ _).alloc (Nat.le_refl _) _⟩
end Go.Proofs.YtlpdhglibgnkoaaGreat

namespace Go.Proofs.YtlpdhglibgnkoaaGreat
open Go.RowKit
set_option linter.unusedVariables false
set_option maxRecDepth 8000

theorem size_u64 (w : World) : (sizeOf 116).run Tryz.prog w = .ok 1 w := by
  have h : (Tryz.prog.info? 116).map (fun i => i.size) = some 1 := by kernel_rfl
  cases hq : Tryz.prog.info? 116 with
  | none => simp [hq] at h
  | some i => simp [hq] at h; simp [sizeOf, typeInfo, hq, h]
theorem index4u (cs : Array Value) (k : Nat) (i : Int) (hi : i = (k : Int)) (x : Int) (hk : k < 4) (h : cs[k]? = some (.int .u64 x)) (w : World) : (Instr.index 157 (.agg cs) (.int .i64 i)).run Tryz.prog w = .ok (.int .u64 x) w := by
  subst hi
  have hlt : (0 : Int) ≤ (k : Int) ∧ (k : Int) < 4 := by omega
  simp only [Instr.index, Sem.run_bind, run_underlying Tryz.underlying157, Result.andThen_ok, asIntOf, Sem.run_pure]
  rw [if_pos (by exact hlt)]
  simp only [Sem.run_bind, size_u64, Result.andThen_ok, Int.toNat_natCast, Nat.mul_one, part, isAgg, run_underlying Tryz.underlying116, Sem.run_pure]
  simp [h]
/-- The bytes of the first k of the head's four numbers. -/
def hedK (g : Gm) (n : Nat) (k : Nat) : List Int := [71, 1] ++ (([g.t, zig g.m, bkI g, (n : Int)].take k).flatMap put)
theorem hedK_four (g : Gm) (n : Nat) : hedK g n 4 = hedB g n := by unfold hedK hedB; simp
set_option maxHeartbeats 2000000 in
theorem gm_heads (w : World) (g : Gm) (ao : Option Addr) (n cap : Nat) (hn : n ≤ cap) (hc : cap ≤ 9223372036854775807) (h : hedE g n = 0) :
    Calls Tryz.prog 68 #[gmV g (.slice ao n cap)] w fun e w' => ∃ v, e = .returned v ∧ Own w' w.heap.size v (hedB g n) ∧ Below w.heap.size w w' := by
  have HE : Hid (hedE g n = 0) := h
  have HO := hed_ok h
  have BK := bk_bd h
  have ZB := zig_u64 (x := g.m) (by unfold R64; omega)
  have HK4 : Hid (hedK g n 4 = hedB g n) := hedK_four g n
  have K0 : Hid (hedK g n 0 = [71, 1]) := (by unfold hedK; simp : hedK g n 0 = [71, 1])
  have K1 : Hid (hedK g n 1 = hedK g n 0 ++ put g.t) := (by unfold hedK; simp : hedK g n 1 = hedK g n 0 ++ put g.t)
  have K2 : Hid (hedK g n 2 = hedK g n 1 ++ put (zig g.m)) := (by unfold hedK; simp : hedK g n 2 = hedK g n 1 ++ put (zig g.m))
  have K3 : Hid (hedK g n 3 = hedK g n 2 ++ put (bkI g)) := (by unfold hedK; simp : hedK g n 3 = hedK g n 2 ++ put (bkI g))
  have K4 : Hid (hedK g n 4 = hedK g n 3 ++ put (n : Int)) := (by unfold hedK; simp : hedK g n 4 = hedK g n 3 ++ put (n : Int))
  have p1 := put_ten (x := g.t) (by omega) (by omega)
  have p2 := put_ten (x := zig g.m) (by omega) (by omega)
  have p3 := put_ten (x := bkI g) (by omega) (by omega)
  have p4 := put_ten (x := (n : Int)) (by omega) (by omega)
  have L0 : (hedK g n 0).length = 2 := by rw [K0.out]; rfl
  have L1 : (hedK g n 1).length ≤ 12 := by rw [K1.out, List.length_append]; omega
  have L2 : (hedK g n 2).length ≤ 22 := by rw [K2.out, List.length_append]; omega
  have L3 : (hedK g n 3).length ≤ 32 := by rw [K3.out, List.length_append]; omega
  have HBK : Hid (∀ w', Calls Tryz.prog 101 #[gmV g (.slice ao n cap)] w' fun e w'' => e = .returned (.int .u64 (bkI g)) ∧ Below w'.heap.size w' w'') := fun w' => gm_back w' g _ n h
  clear h
  obtain ⟨bk, hbk⟩ : ∃ x, bkI g = x := ⟨_, rfl⟩
  obtain ⟨zg, hzg⟩ : ∃ x, zig g.m = x := ⟨_, rfl⟩
  have HZ : Hid (zig g.m = zg) := hzg
  rw [hbk] at BK K3 p3 HBK
  rw [hzg] at ZB K2 p2
  obtain ⟨f, hf⟩ : ∃ f : Nat → List Int, hedK g n = f := ⟨_, rfl⟩
  rw [hf] at HK4 K0 K1 K2 K3 K4 L0 L1 L2 L3
  clear hbk hzg hf
  obtain ⟨t, m, b⟩ := g
  simp only at HO BK
  obtain ⟨o1, o2, o3, o4, o5, o6, o7⟩ := HO
  obtain ⟨k1, k2, _⟩ := BK
  obtain ⟨z1, z2⟩ := ZB
  go_enter Tryz.func68, Tryz.ntmps68
  go_wp2_with fail
  have O0 := Own.built (w.alloc (.cells (gmA ⟨t, m, b⟩ (.slice ao n cap)) 61)) w.heap.size (by simp) [71, 1] 2 rfl (by omega)
  generalize hW : (w.alloc (.cells #[.int .i64 t, .int .i64 m, .int .i64 b, .slice ao n cap] 61)).alloc (.cells #[.int .u8 71, .int .u8 1] 5) = W
  have O1 : Own W w.heap.size (.slice (some ⟨w.heap.size + 1, 0, none⟩) 2 2) [71, 1] := by rw [← hW]; simp at O0; exact O0
  obtain ⟨A0, _, B0⟩ := boxed2 hW
  have OW : Hid (Own W w.heap.size (.slice (some ⟨w.heap.size + 1, 0, none⟩) 2 2) (f 0)) := by rw [K0.out]; exact O1
  clear O0 O1 hW
  have x0_0 := A0.cell 0 _ rfl
  have x1_0 := A0.cell 1 _ rfl
  have x2_0 := A0.cell 2 _ rfl
  have x3_0 := A0.cell 3 _ rfl
  have la := A0.lt
  go_region_held3 (fun w' => w'.cell? ⟨w.heap.size, 0, none⟩ = some (.int .i64 t) ∧ w'.cell? ⟨w.heap.size, 1, none⟩ = some (.int .i64 m) ∧ w'.cell? ⟨w.heap.size, 2, none⟩ = some (.int .i64 b) ∧ w'.cell? ⟨w.heap.size, 3, none⟩ = some (.slice ao n cap)) (first | with_reducible exact ⟨x0_1, x1_1, x2_1, x3_1⟩ | with_reducible exact ⟨x0_0, x1_0, x2_0, x3_0⟩ | go_keep)
    (first | (go_at_call 100; (with_reducible refine (zig_any m (by unfold R64; omega) _).mono ?_); rw [HZ.out]; rintro e w4 ⟨rfl, rfl⟩) | (go_at_call 101; (with_reducible refine (HBK.out _).mono ?_); rintro e w5 ⟨rfl, g5⟩; have A1 := A0.drew.below g5 A0.lt; have x0_1 := A1.cell 0 _ rfl; have x1_1 := A1.cell 1 _ rfl; have x2_1 := A1.cell 2 _ rfl; have x3_1 := A1.cell 3 _ rfl; have B5 := bup B0.drew (Nat.le_refl _) g5; have O5 : Hid (Own w5 w.heap.size (.slice (some ⟨w.heap.size + 1, 0, none⟩) 2 2) (f 0)) := OW.out.drew.below g5))
  have wt : IntKind.u64.wrap t = t := by rw [u64_eq]; omega
  have wn : IntKind.u64.wrap (n : Int) = n := by rw [u64_eq]; omega
  rw [wt, wn]
  clear wt wn x0_0 x1_0 x2_0 x3_0 x0_1 x1_1 x2_1 x3_1 A1 A0 OW HBK HZ g5
  have s5 := B5.size
  have Q0 : Hid (Own w5 w.heap.size (.slice (some ⟨w.heap.size + 1, 0, none⟩) 2 2) (f 0)) := O5.out
  have C0 : Below w.heap.size w w5 := B5
  clear O5 B5 B0
  go_wp2_with fail
  refine wp_loop_rounds 5 ?_
  have ix0 := index4u #[.int .u64 t, .int .u64 zg, .int .u64 bk, .int .u64 (n : Int)] 0 0 rfl t (by omega) rfl w5
  rw [rounds_succ]
  go_wp2_with fail
  clear ix0
  refine (put_any t (by omega) (by omega) _).mono ?_; rintro e v0w ⟨v0, rfl, own0, bb0⟩
  have P0 : Hid (Own v0w w.heap.size _ (f 0)) := Q0.out.below bb0
  have D0 := bup C0 (Nat.le_refl _) bb0
  have d0 := D0.size
  go_wp2_with (at_builtin; refine app_wp rfl _ _ rfl w.heap.size _ (f 0) rfl (by exact P0.out) _ (put t) rfl (by exact own0.rd) (by omega) (by omega) ?_; intro u0 y0 ow0 by0; have C1 := D0.trans by0; have Q1 : Hid (Own y0 w.heap.size u0 (f 1)) := (by rw [K1.out]; exact ow0); clear Q0 C0 P0 D0 d0 ow0 by0 own0 bb0)
  have ix1 := index4u #[.int .u64 t, .int .u64 zg, .int .u64 bk, .int .u64 (n : Int)] 1 1 rfl zg (by omega) rfl y0
  rw [rounds_succ]
  go_wp2_with fail
  clear ix1
  refine (put_any zg (by omega) (by omega) _).mono ?_; rintro e v1w ⟨v1, rfl, own1, bb1⟩
  have P1 : Hid (Own v1w w.heap.size _ (f 1)) := Q1.out.below bb1
  have D1 := bup C1 (Nat.le_refl _) bb1
  have d1 := D1.size
  go_wp2_with (at_builtin; refine app_wp rfl _ _ rfl w.heap.size _ (f 1) rfl (by exact P1.out) _ (put zg) rfl (by exact own1.rd) (by omega) (by omega) ?_; intro u1 y1 ow1 by1; have C2 := D1.trans by1; have Q2 : Hid (Own y1 w.heap.size u1 (f 2)) := (by rw [K2.out]; exact ow1); clear Q1 C1 P1 D1 d1 ow1 by1 own1 bb1)
  have ix2 := index4u #[.int .u64 t, .int .u64 zg, .int .u64 bk, .int .u64 (n : Int)] 2 2 rfl bk (by omega) rfl y1
  rw [rounds_succ]
  go_wp2_with fail
  clear ix2
  refine (put_any bk (by omega) (by omega) _).mono ?_; rintro e v2w ⟨v2, rfl, own2, bb2⟩
  have P2 : Hid (Own v2w w.heap.size _ (f 2)) := Q2.out.below bb2
  have D2 := bup C2 (Nat.le_refl _) bb2
  have d2 := D2.size
  go_wp2_with (at_builtin; refine app_wp rfl _ _ rfl w.heap.size _ (f 2) rfl (by exact P2.out) _ (put bk) rfl (by exact own2.rd) (by omega) (by omega) ?_; intro u2 y2 ow2 by2; have C3 := D2.trans by2; have Q3 : Hid (Own y2 w.heap.size u2 (f 3)) := (by rw [K3.out]; exact ow2); clear Q2 C2 P2 D2 d2 ow2 by2 own2 bb2)
  have ix3 := index4u #[.int .u64 t, .int .u64 zg, .int .u64 bk, .int .u64 (n : Int)] 3 3 rfl (n : Int) (by omega) rfl y2
  rw [rounds_succ]
  go_wp2_with fail
  clear ix3
  refine (put_any (n : Int) (by omega) (by omega) _).mono ?_; rintro e v3w ⟨v3, rfl, own3, bb3⟩
  have P3 : Hid (Own v3w w.heap.size _ (f 3)) := Q3.out.below bb3
  have D3 := bup C3 (Nat.le_refl _) bb3
  have d3 := D3.size
  go_wp2_with (at_builtin; refine app_wp rfl _ _ rfl w.heap.size _ (f 3) rfl (by exact P3.out) _ (put (n : Int)) rfl (by exact own3.rd) (by omega) (by omega) ?_; intro u3 y3 ow3 by3; have C4 := D3.trans by3; have Q4 : Hid (Own y3 w.heap.size u3 (f 4)) := (by rw [K4.out]; exact ow3); clear Q3 C3 P3 D3 d3 ow3 by3 own3 bb3)
  rw [rounds_succ]
  go_wp2_with fail
  go_ret
  exact ⟨_, rfl, HK4.out ▸ Q4.out, C4⟩
end Go.Proofs.YtlpdhglibgnkoaaGreat

namespace Go.Proofs.YtlpdhglibgnkoaaGreat
open Go.RowKit
set_option linter.unusedVariables false
set_option maxRecDepth 8000

set_option maxHeartbeats 4000000 in
theorem gm_body (w : World) (g : Gm) (ok : g.ok) (v : Value) (n : Nat) (A : Nat → Rc) (hA : ∀ i, i < n → (A i).ok) (hv : RdR w v n A) :
    Calls Tryz.prog 42 #[gmV g v] w fun e w' => ∃ u, e = .returned (.tuple #[u, .int .i64 (gmE g A n)]) ∧ Own w' w.heap.size u (bodB g A n) ∧ Below w.heap.size w w' := by
  have HA : Hid (∀ i, i < n → (A i).ok) := hA
  have HR : Hid (RdR w v n A) := hv
  obtain ⟨ao, cap, rfl, hc, hm, _⟩ := hv
  have HC : Hid (∀ w', Calls Tryz.prog 67 #[gmV g (.slice ao n cap)] w' fun e w'' => e = .returned (.int .i64 (hedE g n)) ∧ Below w'.heap.size w' w'') := fun w' => gm_check w' g ok ao n cap hc hm
  have HH : Hid (hedE g n = 0 → ∀ w', Calls Tryz.prog 68 #[gmV g (.slice ao n cap)] w' fun e w'' => ∃ v, e = .returned v ∧ Own w'' w'.heap.size v (hedB g n) ∧ Below w'.heap.size w' w'') := fun h w' => gm_heads w' g ao n cap hc hm h
  have NO : Hid (hedE g n ≠ 0 → gmE g A n = hedE g n ∧ bodB g A n = []) := fun h => by
    have e : gmE g A n = hedE g n := by unfold gmE; rw [if_neg h]
    exact ⟨e, by unfold bodB; rw [if_neg (by rw [e]; exact h)]⟩
  have YE : Hid (hedE g n = 0 → chainR (-1) (pre A n) → gmE g A n = 0 ∧ bodB g A n = hedB g n ++ encR (-1) (pre A n)) := fun h hc => by
    have e : gmE g A n = 0 := by unfold gmE; rw [if_pos h]; exact fir_chain _ _ hc
    exact ⟨e, by unfold bodB; rw [if_pos e]; rfl⟩
  have ER : Hid (∀ k, hedE g n = 0 → k < n → chainR (-1) (pre A k) → wrE (A k) (lastR (-1) (pre A k)) ≠ 0 → gmE g A n = wrE (A k) (lastR (-1) (pre A k)) ∧ bodB g A n = []) := fun k h hk hc he => by
    have e : gmE g A n = wrE (A k) (lastR (-1) (pre A k)) := by unfold gmE; rw [if_pos h]; exact fir_pre hk hc he
    exact ⟨e, by unfold bodB; rw [if_neg (by rw [e]; exact he)]⟩
  have HL : Hid (hedE g n = 0 → (hedB g n).length ≤ 42 ∧ n ≤ 128) := fun h => ⟨hedB_len h, (hed_ok h).2.2.2.2.2.2⟩
  obtain ⟨hb, ehb⟩ : ∃ x, hedB g n = x := ⟨_, rfl⟩
  obtain ⟨he, ehe⟩ : ∃ x, hedE g n = x := ⟨_, rfl⟩
  obtain ⟨ge, ege⟩ : ∃ x, gmE g A n = x := ⟨_, rfl⟩
  obtain ⟨gb, egb⟩ : ∃ x, bodB g A n = x := ⟨_, rfl⟩
  rw [ehb, ehe] at HH YE HL
  rw [ehe] at HC NO ER
  rw [ege, egb] at NO YE ER
  rw [ege, egb]
  clear ehb ehe ege egb hA
  obtain ⟨t, m, b⟩ := g
  go_enter Tryz.func42, Tryz.ntmps42
  go_wp2_with fail
  generalize hW : w.alloc (.cells #[.int .i64 t, .int .i64 m, .int .i64 b, .slice ao n cap] 61) = W
  obtain ⟨A0, b0, _⟩ := boxed hW
  clear hW
  refine (HC.out _).mono ?_; rintro e w1 ⟨rfl, g1⟩
  have A1 := A0.below g1 A0.lt
  have b1 := bup b0 (Nat.le_refl _) g1
  have x0 := A1.cell 0 _ rfl
  have x1 := A1.cell 1 _ rfl
  have x2 := A1.cell 2 _ rfl
  have x3 := A1.cell 3 _ rfl
  have l1 := A1.lt
  clear A0 b0 g1
  by_cases hz : he = 0
  · subst hz
    go_wp2_with fail
    refine (HH.out (by trivial) _).mono ?_; rintro e w2 ⟨u2, rfl, own2, g2⟩
    have A2 := A1.below g2 A1.lt
    have b2 := bup b1 (Nat.le_refl _) g2
    obtain ⟨hl1, hl2⟩ := HL.out (by trivial)
    have O2 : Hid (Own w2 w.heap.size u2 hb) := own2.mono b1.size
    clear x0 x1 x2 x3 l1 A1 b1 g2 own2 NO HC HH HL
    have x3 := A2.cell 3 _ rfl
    have l2 := A2.lt
    go_wp2_with fail
    clear x3 l2
    have B2 : Hid (Below w.heap.size w w2) := b2
    clear b2 A2
    go_loopw [21, 5, 6] (fun i bv lv wr => ∃ k : Nat, k ≤ n ∧ i = .int .i64 k ∧ lv = .int .i64 (lastR (-1) (pre A k)) ∧ chainR (-1) (pre A k) ∧ Own wr w.heap.size bv (hb ++ encR (-1) (pre A k)) ∧ Below w.heap.size w wr) (fun i _ _ _ => n - (intOf i).toNat)
    case atStart => exact ⟨0, by omega, rfl, rfl, trivial, by rw [pre_zero]; simpa [encR] using O2.out, B2.out⟩
    case round =>
      obtain ⟨k, hk, rfl, rfl, ch, q1, q4⟩ := hrel
      have CO := chainR_ok _ _ ch
      have LB := lastR_bd _ _ ch (by omega) (by omega)
      rw [pre_len] at CO
      have LE : (hb ++ encR (-1) (pre A k)).length ≤ 8746 := by rw [List.length_append]; omega
      have CH : Hid (chainR (-1) (pre A k)) := ch
      have Q1 : Hid (Own wr w.heap.size u5 (hb ++ encR (-1) (pre A k))) := q1
      have s1 := q4.size
      clear q1 ch CO
      by_cases hlt : k < n
      · obtain ⟨ao', cap', e, _, _, h3⟩ := HR.out
        injection e with e1 e2 e3
        subst e1 e3
        obtain ⟨b', o, rfl, hcell⟩ := h3.resolve_left (by omega)
        have okk := HA.out k hlt
        have ERk : Hid (wrE (A k) (lastR (-1) (pre A k)) ≠ 0 → ge = wrE (A k) (lastR (-1) (pre A k)) ∧ gb = []) := ER.out k (by trivial) hlt CH.out
        have YEk : Hid (wrE (A k) (lastR (-1) (pre A k)) = 0 → chainR (-1) (pre A (k + 1)) ∧ encR (-1) (pre A (k + 1)) = encR (-1) (pre A k) ++ wrB (A k) (lastR (-1) (pre A k)) ∧ lastR (-1) (pre A (k + 1)) = (A k).i ∧ wrB (A k) (lastR (-1) (pre A k)) ≠ []) := fun h =>
          ⟨by rw [pre_succ]; exact chainR_snoc _ _ _ CH.out okk h, by rw [pre_succ, encR_snoc], by rw [pre_succ, lastR_snoc], by unfold wrB; rw [if_pos h]; simp⟩
        obtain ⟨r, hr⟩ : ∃ r, A k = r := ⟨_, rfl⟩
        have cc : ∀ j x, (recC r)[j]? = some x → wr.cell? ⟨b', o + k * 9 + j, none⟩ = some x := fun j x hx => by
          have c := hcell k hlt j x (by rw [hr]; exact hx)
          exact (q4.cell (p := ⟨b', o + k * 9 + j, none⟩) (World.block_lt_of_cell? w _ c)).trans c
        rw [hr] at okk ERk YEk
        have x0 := cc 0 _ rfl
        have x1 := cc 1 _ rfl
        have x2 := cc 2 _ rfl
        have x3 := cc 3 _ rfl
        have x4 := cc 4 _ rfl
        have x5 := cc 5 _ rfl
        have x6 := cc 6 _ rfl
        have x7 := cc 7 _ rfl
        have x8 := cc 8 _ rfl
        have bl : b' < wr.heap.size := World.block_lt_of_cell? wr _ x0
        have OKR : Hid r.ok := okk
        simp only [Nat.add_zero] at x0
        clear cc hcell hr okk ER YE
        obtain ⟨lst, hlst⟩ : ∃ x, lastR (-1) (pre A k) = x := ⟨_, rfl⟩
        rw [hlst] at LB ERk YEk
        rw [hlst]
        clear hlst
        obtain ⟨lb0, lb1⟩ := LB
        obtain ⟨er, her⟩ : ∃ x, wrE r lst = x := ⟨_, rfl⟩
        obtain ⟨lw, hlw⟩ : ∃ x, wrB r lst = x := ⟨_, rfl⟩
        have HER : Hid (wrE r lst = er ∧ wrB r lst = lw) := ⟨her, hlw⟩
        have LW : lw.length ≤ 68 := by rw [← hlw]; exact wr_len OKR.out
        rw [her] at ERk YEk
        rw [hlw] at YEk
        clear her hlw
        go_wp2_with fail
        generalize hV : wr.alloc (.cells (recA r) 107) = W2
        obtain ⟨T2, bb, _⟩ := boxed hV
        have P1 : Hid (Own W2 w.heap.size u5 (hb ++ encR (-1) (pre A k))) := Own.below Q1.out bb
        have B3 := bup q4 (Nat.le_refl _) bb
        have TA : some wr.heap.size ≠ u5.ownBlock := Blk.apart Q1.out (Nat.le_refl _)
        obtain ⟨MT, hMT⟩ : ∃ M, wr.heap.size = M := ⟨_, rfl⟩
        rw [hMT] at T2 TA
        rw [hMT]
        clear hV bb hMT Q1 q4 x0 x1 x2 x3 x4 x5 x6 x7 x8 bl
        refine (rec_write _ r lst OKR.out (by unfold S64; omega)).mono ?_; rw [HER.out.1, HER.out.2]; rintro e w3 ⟨u8', rfl, own3, b3⟩
        have S1 : Hid (Own w3 w.heap.size u5 (hb ++ encR (-1) (pre A k))) := Own.below P1.out b3
        have O8 : Hid (Own w3 W2.heap.size u8' lw) := own3
        have T3 := T2.below b3 T2.lt
        have B4 := bup B3 (Nat.le_refl _) b3
        have s3 := B4.size
        clear P1 own3 b3 T2 B3
        by_cases hz : er = 0
        · obtain ⟨y1, y2, y3, y4⟩ := YEk.out hz
          have Y : Hid (chainR (-1) (pre A (k + 1)) ∧ encR (-1) (pre A (k + 1)) = encR (-1) (pre A k) ++ lw ∧ lastR (-1) (pre A (k + 1)) = r.i) := ⟨y1, y2, y3⟩
          subst hz
          clear ERk YEk y1 y2 y3
          go_wp2_with (at_builtin; refine grow_wp rfl _ _ rfl w.heap.size _ (hb ++ encR (-1) (pre A k)) rfl (by exact S1.out) _ lw rfl (by exact O8.out.rd) y4 (by omega) (by omega) ?_; intro v5 w5 own5 gr5; have T5 := (Blk.grow T3 TA gr5).1; have B5 := B4.trans gr5.below; have z1 := T5.cell 1 _ rfl; have O5 : Hid (Own w5 w.heap.size v5 (hb ++ encR (-1) (pre A k) ++ lw)) := own5; clear own5 S1 O8 T3 B4 gr5 TA)
          go_roundw
          case rel => exact ⟨k + 1, by omega, by go_num, by rw [Y.out.2.2], Y.out.1, by rw [Y.out.2.1, ← List.append_assoc]; exact O5.out, B5⟩
          case measure => simp [intOf]; omega
        · obtain ⟨y1, y2⟩ := ERk.out hz
          have heq : (er == 0) = false := by simp [hz]
          subst y1 y2
          clear ERk YEk
          go_wp2_with fail
          go_ret2
          exact ⟨_, rfl, Own.nil _ _, B4⟩
      · obtain rfl : k = n := by omega
        obtain ⟨y1, y2⟩ := YE.out (by trivial) CH.out
        subst y1
        have Y2 : Hid (gb = hb ++ encR (-1) (pre A k)) := y2
        clear y2 ER YE
        go_wp2_with fail
        go_ret2
        exact ⟨_, rfl, by rw [Y2.out]; exact Q1.out, q4⟩
  · obtain ⟨y1, y2⟩ := NO.out hz
    have heq : (he == 0) = false := by simp [hz]
    subst y1 y2
    clear NO YE ER HL HH HC
    go_wp2_with fail
    go_ret2
    exact ⟨_, rfl, Own.nil _ _, b1⟩
end Go.Proofs.YtlpdhglibgnkoaaGreat

namespace Go.Proofs.YtlpdhglibgnkoaaGreat
open Go.RowKit
set_option linter.unusedVariables false
set_option maxRecDepth 8000

theorem gm_checks (w : World) (g : Gm) (ok : g.ok) (v : Value) (n : Nat) (A : Nat → Rc) (hA : ∀ i, i < n → (A i).ok) (hv : RdR w v n A) :
    Calls Tryz.prog 48 #[gmV g v] w fun e w' => e = .returned (.int .i64 (gmE g A n)) ∧ Below w.heap.size w w' := by
  have HB : Hid (∀ w', Below w.heap.size w w' → Calls Tryz.prog 42 #[gmV g v] w' fun e w'' => ∃ u, e = .returned (.tuple #[u, .int .i64 (gmE g A n)]) ∧ Own w'' w'.heap.size u (bodB g A n) ∧ Below w'.heap.size w' w'') := fun w' h => gm_body w' g ok v n A hA (hv.below h)
  obtain ⟨ge, ege⟩ : ∃ x, gmE g A n = x := ⟨_, rfl⟩
  rw [ege] at HB
  rw [ege]
  clear ege hA ok
  obtain ⟨ao, cap, rfl, hc, hm, _⟩ := hv
  obtain ⟨t, m, b⟩ := g
  go_enter Tryz.func48, Tryz.ntmps48
  go_wp2_with fail
  generalize hW : w.alloc (.cells #[.int .i64 t, .int .i64 m, .int .i64 b, .slice ao n cap] 61) = W
  obtain ⟨A0, b0, _⟩ := boxed hW
  clear hW
  refine (HB.out _ b0).mono ?_; rintro e w1 ⟨u1, rfl, _, g1⟩
  have b1 := bup b0 (Nat.le_refl _) g1
  go_wp2_with fail
  go_ret
  exact ⟨rfl, b1⟩
set_option maxHeartbeats 1000000 in
theorem gm_write (w : World) (g : Gm) (ok : g.ok) (v : Value) (n : Nat) (A : Nat → Rc) (hA : ∀ i, i < n → (A i).ok) (hv : RdR w v n A) :
    Calls Tryz.prog 25 #[gmV g v] w fun e w' => ∃ u, e = .returned (.tuple #[u, .int .i64 (wrtE g A n)]) ∧ Own w' w.heap.size u (wrtB g A n) ∧ Below w.heap.size w w' := by
  have HB : Hid (∀ w', Below w.heap.size w w' → Calls Tryz.prog 42 #[gmV g v] w' fun e w'' => ∃ u, e = .returned (.tuple #[u, .int .i64 (gmE g A n)]) ∧ Own w'' w'.heap.size u (bodB g A n) ∧ Below w'.heap.size w' w'') := fun w' h => gm_body w' g ok v n A hA (hv.below h)
  have BO : Hid (Bytes (bodB g A n)) := (bodB_ok hA).1
  have BL := (bodB_ok (g := g) hA).2
  have NO : Hid (gmE g A n ≠ 0 → wrtE g A n = gmE g A n ∧ wrtB g A n = []) := fun h => by
    have e : wrtE g A n = gmE g A n := by unfold wrtE; rw [if_neg h]
    exact ⟨e, by unfold wrtB; rw [if_neg (by rw [e]; exact h)]⟩
  have LO : Hid (gmE g A n = 0 → 4096 < (bodB g A n).length + 4 → wrtE g A n = 8 ∧ wrtB g A n = []) := fun h h2 => by
    have eb : bodB g A n = gmB g A n := by unfold bodB; rw [if_pos h]
    rw [eb] at h2
    have e : wrtE g A n = 8 := by unfold wrtE; rw [if_pos h, if_pos h2]
    exact ⟨e, by unfold wrtB; rw [if_neg (by rw [e]; omega)]⟩
  have YE : Hid (gmE g A n = 0 → ¬ 4096 < (bodB g A n).length + 4 → wrtE g A n = 0 ∧ wrtB g A n = bodB g A n ++ four (sum (bodB g A n))) := fun h h2 => by
    have eb : bodB g A n = gmB g A n := by unfold bodB; rw [if_pos h]
    rw [eb] at h2 ⊢
    have e : wrtE g A n = 0 := by unfold wrtE; rw [if_pos h, if_neg h2]
    exact ⟨e, by unfold wrtB; rw [if_pos e]; rfl⟩
  obtain ⟨ge, ege⟩ : ∃ x, gmE g A n = x := ⟨_, rfl⟩
  obtain ⟨bd, ebd⟩ : ∃ x, bodB g A n = x := ⟨_, rfl⟩
  obtain ⟨we, ewe⟩ : ∃ x, wrtE g A n = x := ⟨_, rfl⟩
  obtain ⟨wb, ewb⟩ : ∃ x, wrtB g A n = x := ⟨_, rfl⟩
  rw [ege, ebd] at HB
  rw [ebd] at BO BL
  rw [ege, ewe, ewb] at NO
  rw [ege, ebd, ewe, ewb] at LO YE
  rw [ewe, ewb]
  clear ege ebd ewe ewb hA ok
  obtain ⟨ao, cap, rfl, hc, hm, _⟩ := hv
  obtain ⟨t, m, b⟩ := g
  obtain ⟨N, hN⟩ : ∃ x, bd.length + 4 = x := ⟨_, rfl⟩
  have FL : Hid ((bd ++ four (sum bd)).length = N) := (by rw [List.length_append, four_len, hN] : (bd ++ four (sum bd)).length = N)
  have SM : Hid (bd.length + 4 ≤ 140737488355328) := (by omega : bd.length + 4 ≤ 140737488355328)
  have NB : N ≤ 8750 := by omega
  rw [hN] at LO YE
  clear hN BL
  go_enter Tryz.func25, Tryz.ntmps25
  go_wp2_with fail
  generalize hW : w.alloc (.cells #[.int .i64 t, .int .i64 m, .int .i64 b, .slice ao n cap] 61) = W
  obtain ⟨A0, b0, _⟩ := boxed hW
  clear hW
  refine (HB.out _ b0).mono ?_; rintro e w1 ⟨u1, rfl, own1, g1⟩
  have b1 := bup b0 (Nat.le_refl _) g1
  clear A0 b0 g1
  by_cases hz : ge = 0
  · subst hz
    have O1 : Hid (Own w1 W.heap.size u1 bd) := own1
    clear own1
    go_wp2_with fail
    refine (seal_any _ _ bd BO.out O1.out.rd SM.out).mono ?_; rintro e w2 ⟨u2, rfl, own2, g2⟩
    have b2 := bup b1 (Nat.le_refl _) g2
    have O2 : Hid (Own w2 w.heap.size u2 (bd ++ four (sum bd))) := own2.mono b1.size
    obtain ⟨ao2, cap2, e2, _⟩ := own2.rd
    rw [FL.out] at e2
    subst e2
    clear own2 b1 g2 O1 FL
    by_cases hg : 4096 < N
    · obtain ⟨y1, y2⟩ := LO.out (by trivial) hg
      subst y1 y2
      clear LO YE NO HB
      go_wp2_with fail
      go_ret2
      exact ⟨_, rfl, Own.nil _ _, b2⟩
    · obtain ⟨y1, y2⟩ := YE.out (by trivial) hg
      subst y1
      have Y2 : Hid (wb = bd ++ four (sum bd)) := y2
      clear LO YE NO HB y2
      go_wp2_with fail
      go_ret2
      exact ⟨_, rfl, by rw [Y2.out]; exact O2.out, b2⟩
  · obtain ⟨y1, y2⟩ := NO.out hz
    have heq : (ge == 0) = false := by simp [hz]
    subst y1 y2
    clear LO YE NO HB own1
    go_wp2_with fail
    go_ret2
    exact ⟨_, rfl, Own.nil _ _, b1⟩
end Go.Proofs.YtlpdhglibgnkoaaGreat
