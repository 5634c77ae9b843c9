/-
  Texts Rec11, Rec12, Rec13 in one.
-/
import Derived.Test.YtlpdhglibgnkoaaGreatP10
namespace Go.Proofs.YtlpdhglibgnkoaaGreat
open Go.RowKit
set_option linter.unusedVariables false

theorem Blk.others {w : World} {b c : Nat} {cs : List Value} {x0 x1 x2 x3 x4 x5 x6 x7 x8 : Value} (h : Blk w c cs) (hn : b ≠ c) :
    Blk (((((((((w.setCell ⟨b, 0, none⟩ x0).setCell ⟨b, 1, none⟩ x1).setCell ⟨b, 2, none⟩ x2).setCell ⟨b, 3, none⟩ x3).setCell ⟨b, 4, none⟩ x4).setCell ⟨b, 5, none⟩ x5).setCell ⟨b, 6, none⟩ x6).setCell ⟨b, 7, none⟩ x7).setCell ⟨b, 8, none⟩ x8) c cs :=
  ((((((((h.other (p := ⟨b, 0, none⟩) hn x0).other (p := ⟨b, 1, none⟩) hn x1).other (p := ⟨b, 2, none⟩) hn x2).other (p := ⟨b, 3, none⟩) hn x3).other (p := ⟨b, 4, none⟩) hn x4).other (p := ⟨b, 5, none⟩) hn x5).other (p := ⟨b, 6, none⟩) hn x6).other (p := ⟨b, 7, none⟩) hn x7).other (p := ⟨b, 8, none⟩) hn x8
theorem boxed2 {w W : World} {a b : Array Value} {t1 t2 : TypeId} (h : (w.alloc (.cells a t1)).alloc (.cells b t2) = W) :
    Blk W w.heap.size a.toList ∧ Blk W (w.heap.size + 1) b.toList ∧ Below w.heap.size w W := by
  subst h
  exact ⟨(Blk.new w _ _ rfl).alloc _, Blk.new _ _ _ (by simp), ((Below.refl _ _).alloc (Nat.le_refl _) _).alloc (by simp) _⟩
end Go.Proofs.YtlpdhglibgnkoaaGreat

namespace Go.Proofs.YtlpdhglibgnkoaaGreat
open Go.RowKit
set_option linter.unusedVariables false

/-- All but the blocks R and M is as it was; new blocks may lie behind. -/
structure Ch2 (R M : Nat) (w w' : World) : Prop where
  below : Below R w w'
  past : ∀ g, R < g → g ≠ M → g < w.heap.size → w'.heap[g]? = w.heap[g]?
theorem Ch2.size {R M : Nat} {w w' : World} (h : Ch2 R M w w') : w.heap.size ≤ w'.heap.size := h.below.size
theorem Ch2.refl (R M : Nat) (w : World) : Ch2 R M w w := ⟨Below.refl _ _, fun _ _ _ _ => rfl⟩
theorem Ch2.trans {R M : Nat} {a b c : World} (h : Ch2 R M a b) (k : Ch2 R M b c) : Ch2 R M a c :=
  ⟨h.below.trans k.below, fun g h1 h2 h3 => (k.past g h1 h2 (Nat.lt_of_lt_of_le h3 h.size)).trans (h.past g h1 h2 h3)⟩
theorem Ch.two {R M : Nat} {w w' : World} (h : Ch R w w') : Ch2 R M w w' := ⟨h.below, fun g h1 _ h3 => h.past g h1 h3⟩
theorem Ch2.set {R M : Nat} {a w : World} (h : Ch2 R M a w) (hM : R ≤ M) (o : Nat) (u : Value) : Ch2 R M a (w.setCell ⟨M, o, none⟩ u) :=
  ⟨h.below.setCell hM u, fun g h1 h2 h3 => (Below.heap_setCell w _ u g (by simp only [ne_eq]; omega)).trans (h.past g h1 h2 h3)⟩
theorem Ch2.block {R M : Nat} {w w' : World} (h : Ch2 R M w w') {g : Nat} (h1 : g ≠ R) (h2 : g ≠ M) (hs : g < w.heap.size) : w'.heap[g]? = w.heap[g]? := by
  rcases Nat.lt_or_gt_of_ne h1 with k | k
  · exact h.below.block g k
  · exact h.past g k h2 hs
/-- If the second block was not there. -/
theorem Ch2.one {R M : Nat} {a w w' : World} (h : Ch R a w) (k : Ch2 R M w w') (hM : a.heap.size ≤ M) : Ch R a w' :=
  ⟨h.below.trans k.below, fun g h1 h2 => (k.past g h1 (by omega) (Nat.lt_of_lt_of_le h2 h.size)).trans (h.past g h1 h2)⟩
theorem Blk.ch2 {R M : Nat} {w w' : World} {b : Nat} {cs : List Value} (h : Blk w b cs) (k : Ch2 R M w w') (h1 : b ≠ R) (h2 : b ≠ M) : Blk w' b cs := by
  have e := k.block h1 h2 h.lt
  exact ⟨Nat.lt_of_lt_of_le h.lt k.size, fun o ho => (World.cell?_of_block (w := w) (a := ⟨b, o, none⟩) e).trans (h.all o ho), fun o => (World.frozen?_of_block (w := w) (a := ⟨b, o, none⟩) e).trans (h.froz o)⟩

/-! what is read -/
def othS (x : Int) (s : St) : St := if x = 0 then failS s 7 else s
def bitB (m : Int) (k : Nat) : Bool := decide (m / 2 ^ k % 2 = 1)
def stepA (b : Bool) (s : St) : Int := if b then intA s else 0
def stepS (b : Bool) (s : St) : St := if b then othS (intA s) (intS s) else s
/-- How the reader stands behind k of an Update's numbers. -/
def difS (m : Int) (s : St) : Nat → St
  | 0 => s
  | k + 1 => stepS (bitB m k) (difS m s k)
def difA (m : Int) (s : St) (k : Nat) : Int := stepA (bitB m k) (difS m s k)
def angA (b : Bool) (s : St) : Int := if b then uintA 65535 s else 0
def angS (b : Bool) (s : St) : St := if b then othS (uintA 65535 s) (uintS 65535 s) else s
def badM (m : Int) : Bool := decide (m = 0 ∨ 127 < m)
/-- How the reader stands behind an Update's byte. -/
def mskS (s : St) : St := if badM (byteA s) then failS (byteS s) 7 else byteS s
def updT (s : St) (r : Rc) : Rc := ⟨r.k, r.i, difA (byteA s) (mskS s) 0, difA (byteA s) (mskS s) 1, difA (byteA s) (mskS s) 2, difA (byteA s) (mskS s) 3, difA (byteA s) (mskS s) 4, difA (byteA s) (mskS s) 5, angA (bitB (byteA s) 6) (difS (byteA s) (mskS s) 6)⟩
def updS (s : St) : St := angS (bitB (byteA s) 6) (difS (byteA s) (mskS s) 6)
def whoT (s : St) (r : Rc) : Rc := ⟨r.k, r.i, intA s, intA (intS s), intA (intS (intS s)), intA (vecS s), intA (intS (vecS s)), intA (intS (intS (vecS s))), uintA 65535 (vecS (vecS s))⟩
def whoS (s : St) : St := uintS 65535 (vecS (vecS s))
/-- Behind the Id and the Kind. -/
def hdS (s : St) (last : Int) : St := byteS (uintS (65534 - last) s)
def hdI (s : St) (last : Int) : Int := last + 1 + uintA (65534 - last) s
def hdK (s : St) (last : Int) : Int := byteA (uintS (65534 - last) s)
def takT (s : St) (last : Int) : Rc :=
  if last = 65535 then noRec else if 4 ≤ hdK s last then noRec else
  let r : Rc := ⟨hdK s last, hdI s last, 0, 0, 0, 0, 0, 0, 0⟩
  if hdK s last = 1 then updT (hdS s last) r else if hdK s last = 2 then r else whoT (hdS s last) r
def takS (s : St) (last : Int) : St :=
  if last = 65535 then failS s 10 else if 4 ≤ hdK s last then failS (hdS s last) 11 else
  if hdK s last = 1 then updS (hdS s last) else if hdK s last = 2 then hdS s last else whoS (hdS s last)
def lastB (last : Int) : Bool := decide (-1 ≤ last ∧ last ≤ 65535)
def redS (s : St) (last : Int) : St := if lastB last then takS s last else s
def redE (s : St) (last : Int) : Int := if lastB last then (takS s last).e else 3
def redT (s : St) (last : Int) : Rc := if lastB last then (if (takS s last).e = 0 then takT s last else noRec) else noRec

/-! where a reader has failed nothing is taken -/
theorem failS_e {s : St} (x : Int) (h : s.e ≠ 0) : failS s x = s := by unfold failS; rw [if_neg h]
theorem byteS_e {s : St} (h : s.e ≠ 0) : byteS s = s ∧ byteA s = 0 := by unfold byteS byteA; rw [if_neg h, if_neg h]; exact ⟨rfl, rfl⟩
theorem uintS_e {s : St} (m : Int) (h : s.e ≠ 0) : uintS m s = s ∧ uintA m s = 0 := by unfold uintS uintA; rw [if_neg h, if_neg h]; exact ⟨rfl, rfl⟩
theorem intS_e {s : St} (h : s.e ≠ 0) : intS s = s ∧ intA s = 0 := by
  have := uintS_e top64 h
  unfold intS intA; rw [this.1, this.2]; exact ⟨rfl, by decide⟩
theorem stepS_e {s : St} (b : Bool) (h : s.e ≠ 0) : stepS b s = s ∧ stepA b s = 0 := by
  have := intS_e h
  unfold stepS stepA othS
  rw [this.1, this.2]
  cases b
  · exact ⟨rfl, rfl⟩
  · simp [failS_e 7 h]
theorem difS_e {s : St} (m : Int) (h : s.e ≠ 0) : ∀ k, difS m s k = s
  | 0 => rfl
  | k + 1 => by show stepS _ _ = _; rw [difS_e m h k]; exact (stepS_e _ h).1
theorem difA_e {s : St} (m : Int) (k : Nat) (h : s.e ≠ 0) : difA m s k = 0 := by unfold difA; rw [difS_e m h]; exact (stepS_e _ h).2
theorem angS_e {s : St} (b : Bool) (h : s.e ≠ 0) : angS b s = s ∧ angA b s = 0 := by
  have := uintS_e 65535 h
  unfold angS angA othS
  rw [this.1, this.2]
  cases b
  · exact ⟨rfl, rfl⟩
  · simp [failS_e 7 h]
theorem mskS_bad {s : St} (h : badM (byteA s) = true) : (mskS s).e ≠ 0 := by
  unfold mskS; rw [if_pos h]
  unfold failS
  split
  · simp
  · assumption
/-- An Update's byte that is none: nothing behind it. -/
theorem upd_bad {s : St} {r : Rc} (h : badM (byteA s) = true) (hr : emptyB r = true) : updT s r = r ∧ updS s = failS (byteS s) 7 := by
  have he := mskS_bad h
  have hm : mskS s = failS (byteS s) 7 := by unfold mskS; rw [if_pos h]
  obtain ⟨⟨q0, q1, q2, q3, q4, q5⟩, q6⟩ := (emptyB_iff r).1 hr
  refine ⟨?_, ?_⟩
  · unfold updT
    rw [difA_e _ _ he, difA_e _ _ he, difA_e _ _ he, difA_e _ _ he, difA_e _ _ he, difA_e _ _ he, difS_e _ he, (angS_e _ he).2]
    cases r
    simp only at q0 q1 q2 q3 q4 q5 q6
    subst q0 q1 q2 q3 q4 q5 q6
    rfl
  · unfold updS
    rw [difS_e _ he, (angS_e _ he).1, hm]
end Go.Proofs.YtlpdhglibgnkoaaGreat

namespace Go.Proofs.YtlpdhglibgnkoaaGreat
open Go.RowKit
set_option linter.unusedVariables false

theorem and_pow {m : Int} {k : Nat} (hk : k ≤ 6) (h0 : 0 ≤ m) (h1 : m ≤ 255) : bits .and .u8 m (2 ^ k) = if bitB m k then 2 ^ k else 0 := by
  obtain ⟨n, rfl⟩ := Int.eq_ofNat_of_zero_le h0
  have h := and_bit ⟨k, by omega⟩ ⟨n, by omega⟩
  simp only at h
  rw [h]
  unfold bitB
  have e : (((n / 2 ^ k % 2 : Nat)) : Int) = (n : Int) / 2 ^ k % 2 := by simp
  by_cases g : n / 2 ^ k % 2 = 1
  · rw [if_pos g, if_pos (by rw [decide_eq_true_iff]; omega)]
  · rw [if_neg g, if_neg (by rw [decide_eq_true_iff]; omega)]
theorem rec_otherI (w : World) (K R : Nat) (s : St) (x : Int) (h : Rdr w K R s) : Calls Tryz.prog 167 #[.pointer (some ⟨R, 0, none⟩), .int .i64 x] w fun e w' => e = .returned (.int .i64 x) ∧ Rdr w' K R (othS x s) ∧ Ch R w w' := by
  have HR : Hid (Rdr w K R s) := h
  clear h
  obtain ⟨q, hq⟩ : ∃ q, othS x s = q := ⟨_, rfl⟩
  have HQ : Hid (othS x s = q) := hq
  rw [hq]
  clear hq
  go_enter Tryz.func167, Tryz.ntmps167
  by_cases hx : x = 0
  · have e : q = failS s 7 := by rw [← HQ.out]; unfold othS; rw [if_pos hx]
    clear HQ
    subst hx
    go_wp2_with fail
    refine (fail_any _ K R _ 7 HR.out).mono ?_; rintro e' w1 ⟨rfl, r1, g1⟩
    go_wp2_with fail
    go_ret
    exact ⟨rfl, by rw [e]; exact r1, g1⟩
  · have e : q = s := by rw [← HQ.out]; unfold othS; rw [if_neg hx]
    clear HQ
    go_wp2_with fail
    go_ret
    exact ⟨rfl, by rw [e]; exact HR.out, Ch.refl _ _⟩
theorem rec_otherU (w : World) (K R : Nat) (s : St) (x : Int) (h : Rdr w K R s) : Calls Tryz.prog 150 #[.pointer (some ⟨R, 0, none⟩), .int .u64 x] w fun e w' => e = .returned (.int .u64 x) ∧ Rdr w' K R (othS x s) ∧ Ch R w w' := by
  have HR : Hid (Rdr w K R s) := h
  clear h
  obtain ⟨q, hq⟩ : ∃ q, othS x s = q := ⟨_, rfl⟩
  have HQ : Hid (othS x s = q) := hq
  rw [hq]
  clear hq
  go_enter Tryz.func150, Tryz.ntmps150
  by_cases hx : x = 0
  · have e : q = failS s 7 := by rw [← HQ.out]; unfold othS; rw [if_pos hx]
    clear HQ
    subst hx
    go_wp2_with fail
    refine (fail_any _ K R _ 7 HR.out).mono ?_; rintro e' w1 ⟨rfl, r1, g1⟩
    go_wp2_with fail
    go_ret
    exact ⟨rfl, by rw [e]; exact r1, g1⟩
  · have e : q = s := by rw [← HQ.out]; unfold othS; rw [if_neg hx]
    clear HQ
    go_wp2_with fail
    go_ret
    exact ⟨rfl, by rw [e]; exact HR.out, Ch.refl _ _⟩
set_option maxRecDepth 8000 in
set_option maxHeartbeats 2000000 in
theorem rec_diffs (w : World) (K R : Nat) (s : St) (m : Int) (h0 : 0 ≤ m) (h1 : m ≤ 255) (h : Rdr w K R s) : Calls Tryz.prog 149 #[.pointer (some ⟨R, 0, none⟩), .int .u8 m] w fun e w' =>
    e = .returned (.agg #[.int .i64 (difA m s 0), .int .i64 (difA m s 1), .int .i64 (difA m s 2)]) ∧ Rdr w' K R (difS m s 3) ∧ Ch R w w' := by
  have HR : Hid (Rdr w K R s) := h
  have lt := h.lt
  have hK := h.hK
  clear h
  have P0 : Hid (bits .and .u8 m (2 ^ 0) = if bitB m 0 then 2 ^ 0 else 0) := and_pow (by omega) h0 h1
  have P1 : Hid (bits .and .u8 m (2 ^ 1) = if bitB m 1 then 2 ^ 1 else 0) := and_pow (by omega) h0 h1
  have P2 : Hid (bits .and .u8 m (2 ^ 2) = if bitB m 2 then 2 ^ 2 else 0) := and_pow (by omega) h0 h1
  obtain ⟨d0, e0⟩ : ∃ d, difA m s 0 = d := ⟨_, rfl⟩
  obtain ⟨d1, e1⟩ : ∃ d, difA m s 1 = d := ⟨_, rfl⟩
  obtain ⟨d2, e2⟩ : ∃ d, difA m s 2 = d := ⟨_, rfl⟩
  have E0 : Hid (difA m s 0 = d0) := e0
  have E1 : Hid (difA m s 1 = d1) := e1
  have E2 : Hid (difA m s 2 = d2) := e2
  rw [e0, e1, e2]
  clear e0 e1 e2
  obtain ⟨f, f0, f1, f2, f3⟩ : ∃ f : Nat → List Value, f 0 = [.int .i64 0, .int .i64 0, .int .i64 0] ∧ f 1 = [.int .i64 (d0), .int .i64 0, .int .i64 0] ∧ f 2 = [.int .i64 (d0), .int .i64 (d1), .int .i64 0] ∧ f 3 = [.int .i64 (d0), .int .i64 (d1), .int .i64 (d2)] := ⟨fun n => if n = 0 then [.int .i64 0, .int .i64 0, .int .i64 0] else if n = 1 then [.int .i64 (d0), .int .i64 0, .int .i64 0] else if n = 2 then [.int .i64 (d0), .int .i64 (d1), .int .i64 0] else [.int .i64 (d0), .int .i64 (d1), .int .i64 (d2)], rfl, rfl, rfl, rfl⟩
  have F0 : Hid (f 0 = [.int .i64 0, .int .i64 0, .int .i64 0]) := f0
  have F1 : Hid (f 1 = [.int .i64 (d0), .int .i64 0, .int .i64 0]) := f1
  have F2 : Hid (f 2 = [.int .i64 (d0), .int .i64 (d1), .int .i64 0]) := f2
  have F3 : Hid (f 3 = [.int .i64 (d0), .int .i64 (d1), .int .i64 (d2)]) := f3
  clear f0 f1 f2 f3
  go_enter Tryz.func149, Tryz.ntmps149
  go_wp2_with fail
  generalize hW : (w.alloc (.cells #[.int .i64 0, .int .i64 0, .int .i64 0] 66)).alloc (.cells #[.int .i64 0, .int .i64 0, .int .i64 0] 66) = W
  have X0 : Blk W w.heap.size [.int .i64 0, .int .i64 0, .int .i64 0] := by rw [← hW]; exact (Blk.new w _ _ rfl).alloc _
  have Y0 : Blk W (w.heap.size + 1) [.int .i64 0, .int .i64 0, .int .i64 0] := by rw [← hW]; exact Blk.new _ _ _ (by simp)
  have G0 : Ch R w W := by rw [← hW]; exact Ch.of (((Below.refl _ _).alloc (Nat.le_refl _) _).alloc (by simp) _) (by omega)
  have R0 : Rdr W K R s := HR.out.below (B := w.heap.size) (by rw [← hW]; exact ((Below.refl _ _).alloc (Nat.le_refl _) _).alloc (by simp) _) lt
  clear hW HR
  obtain ⟨H, hH⟩ : ∃ H, w.heap.size = H := ⟨_, rfl⟩
  have HHl : w.heap.size ≤ H := by omega
  have HHg : H ≤ w.heap.size := by omega
  rw [hH] at X0 Y0 lt
  rw [hH]
  clear hH
  have XX : Hid (Blk W H [.int .i64 0, .int .i64 0, .int .i64 0]) := X0
  have YY : Hid (Blk W (H + 1) (f 0)) := by rw [F0.out]; exact Y0
  have GG : Hid (Ch R w W) := G0
  have RR : Hid (Rdr W K R s) := R0
  clear X0 Y0 G0 R0
  go_loopw [7] (fun i wr => ∃ k : Nat, k ≤ 3 ∧ i = .int .i64 k ∧ Blk wr H [.int .i64 0, .int .i64 0, .int .i64 0] ∧ Blk wr (H + 1) (f k) ∧ Rdr wr K R (difS m s k) ∧ Ch R w wr) (fun i _ => 3 - (intOf i).toNat)
  case atStart => exact ⟨0, by omega, rfl, XX.out, YY.out, RR.out, GG.out⟩
  case round =>
    obtain ⟨k, hk, rfl, X0, Y0, r0, G0⟩ := hrel
    clear XX YY GG RR
    have R0 : Hid (Rdr wr K R (difS m s k)) := r0
    clear r0
    by_cases g0 : k = 0
    · subst g0
      rw [F0.out] at Y0
      have y := Y0.cell 0 _ rfl
      have yf := Y0.froz 0
      have yl := Y0.lt
      have xl := X0.lt
      cases hb : bitB m 0
      · have P : bits .and .u8 m 1 = 0 := by have h := P0.out; rw [hb] at h; simpa using h
        have HD : Hid (difS m s 1 = difS m s 0) := (by show stepS _ _ = _; rw [hb]; rfl : difS m s 1 = difS m s 0)
        have HZ : d0 = 0 := by rw [← E0.out]; unfold difA; rw [hb]; rfl
        go_wp2_with fail
        go_roundw
        case rel => exact ⟨1, by omega, by go_num, X0, by rw [F1.out, HZ]; exact Y0, by rw [HD.out]; exact R0.out, G0⟩
        case measure => simp [intOf]
      · have P : bits .and .u8 m 1 = 1 := by have h := P0.out; rw [hb] at h; simpa using h
        obtain ⟨s', hs'⟩ : ∃ s', difS m s 0 = s' := ⟨_, rfl⟩
        have HD : Hid (difS m s 1 = othS d0 (intS s')) := (by rw [← E0.out]; unfold difA; show stepS _ _ = _; rw [hb, hs']; rfl : difS m s 1 = othS d0 (intS s'))
        have HZ : Hid (intA s' = d0) := (by rw [← E0.out]; unfold difA; rw [hb, hs']; rfl : intA s' = d0)
        rw [hs'] at R0
        clear hs'
        go_wp2_with fail
        refine (int_any _ K R _ R0.out).mono ?_; rw [HZ.out]; rintro e w1 ⟨rfl, r1, g1'⟩
        have X1 := X0.ch g1' (by omega)
        have Y1 := Y0.ch g1' (by omega)
        have G1 := G0.trans g1'
        have R1 : Hid (Rdr w1 K R (intS s')) := r1
        clear r1 g1' y yf yl xl X0 Y0 G0 R0
        go_wp2_with fail
        refine (rec_otherI _ K R _ d0 R1.out).mono ?_; rintro e w2 ⟨rfl, r2, g2'⟩
        have X2 := X1.ch g2' (by omega)
        have Y2 := Y1.ch g2' (by omega)
        have G2 := G1.trans g2'
        have R2 : Hid (Rdr w2 K R (othS d0 (intS s'))) := r2
        clear r2 g2' X1 Y1 G1 R1
        have y := Y2.cell 0 _ rfl
        have yf := Y2.froz 0
        have yl := Y2.lt
        go_wp2_with fail
        have Y3 := Y2.set 0 (.int .i64 d0) (by simp)
        simp only [List.set] at Y3
        have X3 := X2.other (p := ⟨H + 1, 0, none⟩) (show H + 1 ≠ H by omega) (.int .i64 d0)
        have G3 := G2.setNew (p := ⟨H + 1, 0, none⟩) (by omega) (show w.heap.size ≤ H + 1 by omega) (.int .i64 d0)
        have R3 := R2.out.ch ((Ch.refl (H + 1) _).set 0 (.int .i64 d0)) (by omega) (by omega)
        go_roundw
        case rel => exact ⟨1, by omega, by go_num, X3, by rw [F1.out]; exact Y3, by rw [HD.out]; exact R3, G3⟩
        case measure => simp [intOf]
    by_cases g1 : k = 1
    · subst g1
      rw [F1.out] at Y0
      have y := Y0.cell 1 _ rfl
      have yf := Y0.froz 1
      have yl := Y0.lt
      have xl := X0.lt
      cases hb : bitB m 1
      · have P : bits .and .u8 m 2 = 0 := by have h := P1.out; rw [hb] at h; simpa using h
        have HD : Hid (difS m s 2 = difS m s 1) := (by show stepS _ _ = _; rw [hb]; rfl : difS m s 2 = difS m s 1)
        have HZ : d1 = 0 := by rw [← E1.out]; unfold difA; rw [hb]; rfl
        go_wp2_with fail
        go_roundw
        case rel => exact ⟨2, by omega, by go_num, X0, by rw [F2.out, HZ]; exact Y0, by rw [HD.out]; exact R0.out, G0⟩
        case measure => simp [intOf]
      · have P : bits .and .u8 m 2 = 2 := by have h := P1.out; rw [hb] at h; simpa using h
        obtain ⟨s', hs'⟩ : ∃ s', difS m s 1 = s' := ⟨_, rfl⟩
        have HD : Hid (difS m s 2 = othS d1 (intS s')) := (by rw [← E1.out]; unfold difA; show stepS _ _ = _; rw [hb, hs']; rfl : difS m s 2 = othS d1 (intS s'))
        have HZ : Hid (intA s' = d1) := (by rw [← E1.out]; unfold difA; rw [hb, hs']; rfl : intA s' = d1)
        rw [hs'] at R0
        clear hs'
        go_wp2_with fail
        refine (int_any _ K R _ R0.out).mono ?_; rw [HZ.out]; rintro e w1 ⟨rfl, r1, g1'⟩
        have X1 := X0.ch g1' (by omega)
        have Y1 := Y0.ch g1' (by omega)
        have G1 := G0.trans g1'
        have R1 : Hid (Rdr w1 K R (intS s')) := r1
        clear r1 g1' y yf yl xl X0 Y0 G0 R0
        go_wp2_with fail
        refine (rec_otherI _ K R _ d1 R1.out).mono ?_; rintro e w2 ⟨rfl, r2, g2'⟩
        have X2 := X1.ch g2' (by omega)
        have Y2 := Y1.ch g2' (by omega)
        have G2 := G1.trans g2'
        have R2 : Hid (Rdr w2 K R (othS d1 (intS s'))) := r2
        clear r2 g2' X1 Y1 G1 R1
        have y := Y2.cell 1 _ rfl
        have yf := Y2.froz 1
        have yl := Y2.lt
        go_wp2_with fail
        have Y3 := Y2.set 1 (.int .i64 d1) (by simp)
        simp only [List.set] at Y3
        have X3 := X2.other (p := ⟨H + 1, 1, none⟩) (show H + 1 ≠ H by omega) (.int .i64 d1)
        have G3 := G2.setNew (p := ⟨H + 1, 1, none⟩) (by omega) (show w.heap.size ≤ H + 1 by omega) (.int .i64 d1)
        have R3 := R2.out.ch ((Ch.refl (H + 1) _).set 1 (.int .i64 d1)) (by omega) (by omega)
        go_roundw
        case rel => exact ⟨2, by omega, by go_num, X3, by rw [F2.out]; exact Y3, by rw [HD.out]; exact R3, G3⟩
        case measure => simp [intOf]
    by_cases g2 : k = 2
    · subst g2
      rw [F2.out] at Y0
      have y := Y0.cell 2 _ rfl
      have yf := Y0.froz 2
      have yl := Y0.lt
      have xl := X0.lt
      cases hb : bitB m 2
      · have P : bits .and .u8 m 4 = 0 := by have h := P2.out; rw [hb] at h; simpa using h
        have HD : Hid (difS m s 3 = difS m s 2) := (by show stepS _ _ = _; rw [hb]; rfl : difS m s 3 = difS m s 2)
        have HZ : d2 = 0 := by rw [← E2.out]; unfold difA; rw [hb]; rfl
        go_wp2_with fail
        go_roundw
        case rel => exact ⟨3, by omega, by go_num, X0, by rw [F3.out, HZ]; exact Y0, by rw [HD.out]; exact R0.out, G0⟩
        case measure => simp [intOf]
      · have P : bits .and .u8 m 4 = 4 := by have h := P2.out; rw [hb] at h; simpa using h
        obtain ⟨s', hs'⟩ : ∃ s', difS m s 2 = s' := ⟨_, rfl⟩
        have HD : Hid (difS m s 3 = othS d2 (intS s')) := (by rw [← E2.out]; unfold difA; show stepS _ _ = _; rw [hb, hs']; rfl : difS m s 3 = othS d2 (intS s'))
        have HZ : Hid (intA s' = d2) := (by rw [← E2.out]; unfold difA; rw [hb, hs']; rfl : intA s' = d2)
        rw [hs'] at R0
        clear hs'
        go_wp2_with fail
        refine (int_any _ K R _ R0.out).mono ?_; rw [HZ.out]; rintro e w1 ⟨rfl, r1, g1'⟩
        have X1 := X0.ch g1' (by omega)
        have Y1 := Y0.ch g1' (by omega)
        have G1 := G0.trans g1'
        have R1 : Hid (Rdr w1 K R (intS s')) := r1
        clear r1 g1' y yf yl xl X0 Y0 G0 R0
        go_wp2_with fail
        refine (rec_otherI _ K R _ d2 R1.out).mono ?_; rintro e w2 ⟨rfl, r2, g2'⟩
        have X2 := X1.ch g2' (by omega)
        have Y2 := Y1.ch g2' (by omega)
        have G2 := G1.trans g2'
        have R2 : Hid (Rdr w2 K R (othS d2 (intS s'))) := r2
        clear r2 g2' X1 Y1 G1 R1
        have y := Y2.cell 2 _ rfl
        have yf := Y2.froz 2
        have yl := Y2.lt
        go_wp2_with fail
        have Y3 := Y2.set 2 (.int .i64 d2) (by simp)
        simp only [List.set] at Y3
        have X3 := X2.other (p := ⟨H + 1, 2, none⟩) (show H + 1 ≠ H by omega) (.int .i64 d2)
        have G3 := G2.setNew (p := ⟨H + 1, 2, none⟩) (by omega) (show w.heap.size ≤ H + 1 by omega) (.int .i64 d2)
        have R3 := R2.out.ch ((Ch.refl (H + 1) _).set 2 (.int .i64 d2)) (by omega) (by omega)
        go_roundw
        case rel => exact ⟨3, by omega, by go_num, X3, by rw [F3.out]; exact Y3, by rw [HD.out]; exact R3, G3⟩
        case measure => simp [intOf]
    · obtain rfl : k = 3 := by omega
      rw [F3.out] at Y0
      have x0 := Y0.cell 0 _ rfl
      have x1 := Y0.cell 1 _ rfl
      have x2 := Y0.cell 2 _ rfl
      have y0 := X0.cell 0 _ rfl
      have y1 := X0.cell 1 _ rfl
      have y2 := X0.cell 2 _ rfl
      have v0 := X0.froz 0
      have v1 := X0.froz 1
      have v2 := X0.froz 2
      have xl := X0.lt
      have yl := Y0.lt
      go_wp2_with fail
      refine bodyPost_ret (v := .agg #[.int .i64 d0, .int .i64 d1, .int .i64 d2]) (by simp [results, Tryz.results149, go_sem, y0, y1, y2]) rfl ?_
      refine ⟨rfl, ?_, ?_⟩
      · refine R0.out.ch (M := H) ?_ (by omega) (by omega)
        repeat' (first | exact Ch.refl _ _ | refine Ch.set ?_ _ _)
      · repeat' (first | exact G0 | refine Ch.setNew ?_ (by omega) (show w.heap.size ≤ H by omega) _)
end Go.Proofs.YtlpdhglibgnkoaaGreat
