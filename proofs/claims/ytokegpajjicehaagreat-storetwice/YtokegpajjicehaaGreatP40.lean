/-
  Texts St16, St17 in one.
-/
import Derived.Deep.LoopGhost
import Derived.Test.YtokegpajjicehaaGreatP39
namespace Go.Proofs.YtokegpajjicehaaGreat
open Go.RowKit
set_option linter.unusedVariables false
set_option maxRecDepth 20000

/-- A value that a call owns, of these cells (their type: e). -/
def OwnL (e : TypeId) (w : World) (B : Nat) (v : Value) (L : List Value) : Prop := w.ownsRow B e 1 v L.length L
section
variable {e : TypeId} {w w' : World} {B : Nat} {v : Value} {L : List Value}
theorem OwnL.nil (w : World) (B : Nat) : OwnL e w B (.slice none 0 0) [] := World.ownsRow_nil w B _ _
theorem OwnL.lt (h : OwnL e w B v L) : ∀ k, v.ownBlock = some k → B ≤ k ∧ k < w.heap.size := World.ownsRow.lt h
theorem OwnL.kept (h : OwnL e w B v L) {r : Option Nat} (hg : w.grownBy w' r) (hr : v.ownBlock = none ∨ v.ownBlock ≠ r) : OwnL e w' B v L := World.ownsRow.kept h hg hr
theorem OwnL.below (h : OwnL e w B v L) (hb : Below w.heap.size w w') : OwnL e w' B v L := by
  refine ⟨h.1, ?_⟩
  rcases h.2 with hn | ⟨g, cap, cur, hv, hB, hg, rest⟩
  · exact Or.inl hn
  · exact Or.inr ⟨g, cap, cur, hv, hB, (hb.block g (Array.getElem?_eq_some_iff.1 hg).1).trans hg, rest⟩
theorem OwnL.drewN (h : OwnL e w B v L) (n : Nat) : OwnL e (w.drewN n) B v L := h
theorem OwnL.form (h : OwnL e w B v L) : ∃ ao cap, v = .slice ao L.length cap ∧ L.length ≤ cap ∧ cap ≤ 9223372036854775807 ∧ (ao = none → cap = 0) := by
  rcases h.2 with ⟨rfl, h0⟩ | ⟨g, cap, cur, hv, hb, hg, hc, hm, _⟩
  · exact ⟨none, 0, by rw [h0], by omega, by omega, fun _ => rfl⟩
  · exact ⟨_, cap, hv, hc, hm, fun h => by simp at h⟩
theorem OwnL.some_ (h : OwnL e w B v L) (hl : L ≠ []) : ∃ g cap cur, v = .slice (some ⟨g, 0, none⟩) L.length cap ∧ B ≤ g ∧ w.heap[g]? = some (.cells cur e (0, 0)) ∧ L.length ≤ cap ∧ cap ≤ 9223372036854775807 ∧ cur.size = cap * 1 ∧ cur.toList.take (L.length * 1) = L := by
  have hp := List.length_pos_iff.2 hl
  rcases h.2 with ⟨_, h0⟩ | h
  · omega
  · exact h
theorem rowL_at {g cap : Nat} {cur : Array Value} (hg : w.heap[g]? = some (.cells cur e (0, 0))) (hc : L.length ≤ cap) (hs : cur.size = cap * 1) (ht : cur.toList.take (L.length * 1) = L) (j : Nat) (u : Value) (h : L[j]? = some u) : w.cell? ⟨g, j, none⟩ = some u := by
  have hj : j < L.length * 1 := by have := (List.getElem?_eq_some_iff.1 h).1; omega
  rw [row_cell hg, ← h]
  conv => rhs; rw [← ht]
  rw [List.getElem?_take, if_pos hj]
  simp
theorem OwnL.at (h : OwnL e w B v L) {g n cap : Nat} (hv : v = .slice (some ⟨g, 0, none⟩) n cap) {i : Nat} {u : Value} (hi : L[i]? = some u) : w.cell? ⟨g, i, none⟩ = some u := by
  obtain ⟨g', cap', cur, hv', hB, hg, hc, hm, hs, ht⟩ := h.some_ (by intro h; rw [h] at hi; simp at hi)
  rw [hv] at hv'; injection hv' with h1 _ _; injection h1 with h1; injection h1 with h1 _ _; subst h1
  exact rowL_at hg hc hs ht _ _ hi
theorem OwnL.mono {C : Nat} (h : OwnL e w B v L) (hC : C ≤ B) : OwnL e w C v L := by
  refine ⟨h.1, ?_⟩
  rcases h.2 with hn | ⟨g, cap, cur, hv, hB, rest⟩
  · exact Or.inl hn
  · exact Or.inr ⟨g, cap, cur, hv, Nat.le_trans hC hB, rest⟩
end
/-- 'append(s, x...)' of one cell. -/
theorem growL_op {P : Program} {w : World} {o : Oper} {a : Act} {K : Act → World → Prop} {Q : Exit → Act → World → Prop} (t e : TypeId) (zr : Value) (by_ : Nat) (ht : P.underlying t = some (.slice e)) (hz : (P.info? e).map (fun i => (i.zero, i.size, i.bytes)) = some (some zr, 1, by_)) (hby : by_ ≤ 64) (hb0 : 0 < by_) (hzr : zr.cells.size = 1) (s x : Operand)
    (ho : o.op = .call { callee := .builtin .append, args := #[s, x], argTypes := #[t, t] })
    (B : Nat) (v : Value) (L : List Value) (hs : a.eval s = v) (hown : OwnL e w B v L) (g0 o0 : Nat) (u : Value) (c0 : Nat) (hx : a.eval x = .slice (some ⟨g0, o0, none⟩) 1 c0)
    (hr0 : w.cell? ⟨g0, o0, none⟩ = some u) (h1 : u.oneCell' = true) (hlen : L.length ≤ 1000000) (hB : B ≤ w.heap.size)
    (h : ∀ v' w', OwnL e w' B v' (L ++ [u]) → Grow B v w v' w' → K (a.put o.dst v') w') : o.wp P a w K Q := by
  obtain ⟨i0, hi, hz0, hz1, hz2⟩ := info_parts hz
  have hm : (L.length + 1) * by_ ≤ (L.length + 1) * 64 := Nat.mul_le_mul_left _ hby
  refine wp_append_lies w s x t ho B e i0 zr 1 by_ ht hi hz0 hz1 hz2 hzr (by decide) v L.length L hs hown ⟨g0, o0, none⟩ 1 c0 [u] hx rfl (fun j y hu => ?_) (fun y hy => by rw [List.mem_singleton.1 hy]; exact h1) (by omega) (by unfold maxLen; omega) (by omega) hB w.heap.size rfl ?_
  · rw [Addr.add_lit]
    rcases j with _ | j
    · simp at hu; subst hu; exact hr0
    · simp at hu
  intro g cap' w' hown' hgrow hor hlt
  refine h _ w' ?_ ⟨(Below.refl B w).grown hgrow hB (fun k hk => (hown.lt k hk).1), hgrow, ?_⟩
  · unfold OwnL
    rw [List.length_append]
    exact hown'
  · rcases hor with e | e
    · exact Or.inl e.symm
    · right; rw [e]; rfl
theorem growL_wp {P : Program} {w : World} {ops : Array Oper} {rest : List Oper} {o : Oper} {a : Act} {Q : Exit → Act → World → Prop} (hgd : o.guard = none) (t e : TypeId) (zr : Value) (by_ : Nat) (ht : P.underlying t = some (.slice e)) (hz : (P.info? e).map (fun i => (i.zero, i.size, i.bytes)) = some (some zr, 1, by_)) (hby : by_ ≤ 64) (hb0 : 0 < by_) (hzr : zr.cells.size = 1) (s x : Operand)
    (ho : o.op = .call { callee := .builtin .append, args := #[s, x], argTypes := #[t, t] })
    (B : Nat) (v : Value) (L : List Value) (hs : a.eval s = v) (hown : OwnL e w B v L) (g0 o0 : Nat) (u : Value) (c0 : Nat) (hx : a.eval x = .slice (some ⟨g0, o0, none⟩) 1 c0)
    (hr0 : w.cell? ⟨g0, o0, none⟩ = some u) (h1 : u.oneCell' = true) (hlen : L.length ≤ 1000000) (hB : B ≤ w.heap.size)
    (h : ∀ v' w', OwnL e w' B v' (L ++ [u]) → Grow B v w v' w' → wpList P ops Q rest (a.put o.dst v') w') : wpList P ops Q (o :: rest) a w :=
  wpList_plain hgd fun K hK => growL_op t e zr by_ ht hz hby hb0 hzr s x ho B v L hs hown g0 o0 u c0 hx hr0 h1 hlen hB fun v' w' h1 h2 => hK _ _ (h v' w' h1 h2)

theorem own_type {e : TypeId} {w : World} {B sz n : Nat} {v : Value} {xs : List Value} (h : w.ownsRow B e sz v n xs) {g : Nat} (hg : v.ownBlock = some g) : ∃ cur, w.heap[g]? = some (.cells cur e (0, 0)) := by
  rcases h.2 with ⟨rfl, _⟩ | ⟨k, cap, cur, rfl, hB, hk, _⟩
  · simp [Value.ownBlock] at hg
  · have : k = g := Option.some.inj hg
    subst this; exact ⟨cur, hk⟩
/-- Rows of things of two types lie in two blocks. -/
theorem own_apart {e e' : TypeId} (he : e ≠ e') {w : World} {B B' sz sz' n n' : Nat} {v v' : Value} {xs xs' : List Value} (h : w.ownsRow B e sz v n xs) (h' : w.ownsRow B' e' sz' v' n' xs') : v.ownBlock = none ∨ v.ownBlock ≠ v'.ownBlock := by
  cases hq : v.ownBlock with
  | none => exact Or.inl rfl
  | some g =>
    right
    intro hq'
    obtain ⟨c, hc⟩ := own_type h hq
    obtain ⟨c', hc'⟩ := own_type h' hq'.symm
    rw [hc] at hc'
    injection hc' with hc'
    injection hc' with _ h2 _
    exact he h2
/-- The row's block is not the store's, nor its ring's. -/
def Offs (S R : Nat) (a : Value) : Prop := some S ≠ a.ownBlock ∧ some R ≠ a.ownBlock
theorem StoV.growL {e : TypeId} (hE : 40 ≠ e) (hO : 128 ≠ e) {w w' : World} {B C S R : Nat} {v a a' : Value} {rs : Rs} {s : Sto} {L : List Value} (h : StoV w B S R v rs s) (ho : OwnL e w C a L) (g : Grow C a w a' w') (hs : Offs S R a) : StoV w' B S R v rs s ∧ Offs S R a' := by
  have hSl := h.blk.lt
  have hRl := h.rng.blk.lt
  refine ⟨⟨h.blk.grwn g.by_ hs.1, ⟨h.rng.blk.grwn g.by_ hs.2, h.rng.own.kept g.by_ (own_apart hO h.rng.own ho), h.rng.ok, h.rng.ones, h.rng.ne, h.rng.le⟩, h.most, h.kept.mono ?_, h.ne, h.nev, h.le, h.num⟩, ?_⟩
  · rintro p s ⟨ao, n, c, rfl, h1, h2⟩
    exact ⟨ao, n, c, rfl, World.ownsRow.kept h1 g.by_ (own_apart hE h1 ho), h2⟩
  · rcases g.blk with e | e
    · unfold Offs; rw [e]; exact hs
    · unfold Offs; rw [e]
      exact ⟨fun h' => by injection h' with h'; omega, fun h' => by injection h' with h'; omega⟩
theorem OwnL.chs {e : TypeId} (hO : e ≠ 128) {w w' : World} {B C S R : Nat} {v v' a : Value} {rs : Rs} {s : Sto} {L : List Value} (ho : OwnL e w C a L) (h : StoV w B S R v rs s) (hs : Offs S R a) (k : Chs B S R v v' w w') : OwnL e w' C a L := by
  refine ⟨ho.1, ?_⟩
  have hap := own_apart hO ho h.rng.own
  rcases ho.2 with hn | ⟨g, cap, cur, hv', hB, hg, rest⟩
  · exact Or.inl hn
  · have hgl : g < w.heap.size := (Array.getElem?_eq_some_iff.1 hg).1
    subst hv'
    refine Or.inr ⟨g, cap, cur, rfl, hB, (k.block g hgl (fun e => hs.1 (by rw [← e]; rfl)) (fun e => hs.2 (by rw [← e]; rfl)) (fun e => ?_)).trans hg, rest⟩
    rcases hap with h' | h'
    · cases h'
    · exact h' (by rw [← e]; rfl)
theorem infoBS : (Tryz.prog.info? 55).map (fun i => (i.zero, i.size, i.bytes)) = some (some (.slice none 0 0), 1, 24) := by kernel_rfl
def mostN (n : Int) : Nat := 1 + (n % 64).toNat
theorem most_bd (n : Int) : 1 ≤ mostN n ∧ mostN n ≤ 64 := by unfold mostN; omega
theorem most_any (w : World) (n : Int) : Calls Tryz.prog 20 #[.int .i64 n] w fun e w' => e = .returned (.int .i64 (mostN n : Nat)) ∧ w' = w := by
  have e0 : ((mostN n : Nat) : Int) = 1 + n % 64 := by unfold mostN; omega
  rw [e0]
  have h1 : IntKind.u64.wrap n = n % 18446744073709551616 := IntKind.wrap_u64 n
  have h2 : Int.tmod (n % 18446744073709551616) 64 = n % 64 := by
    rw [Int.tmod_eq_emod_of_nonneg (by omega)]; omega
  have h3 : IntKind.i64.wrap (n % 64) = n % 64 := by rw [IntKind.wrap_i64]; omega
  have h4 : IntKind.i64.wrap (1 + n % 64) = 1 + n % 64 := by rw [IntKind.wrap_i64]; omega
  have h5 : IntKind.u64.wrap (n % 64) = n % 64 := by rw [IntKind.wrap_u64]; omega
  go_enter Tryz.func20, Tryz.ntmps20
  go_wp2_with fail
  go_ret
  exact ⟨rfl, rfl⟩

/-- How many bytes these are together. -/
def sumL (L : Nat → List Int) : Nat → Nat
  | 0 => 0
  | n + 1 => sumL L n + (L n).length
theorem sumL_le {L : Nat → List Int} {n : Nat} (h : ∀ i, i < n → (L i).length ≤ 140737488351232) : ∀ k, k ≤ n → sumL L k ≤ k * 140737488351232
  | 0, _ => by simp [sumL]
  | k + 1, hk => by
    have := sumL_le h k (by omega)
    have := h k (by omega)
    unfold sumL; omega
theorem sumL_at {L : Nat → List Int} : ∀ {n i : Nat}, i < n → (L i).length ≤ sumL L n
  | n + 1, i, h => by
    unfold sumL
    rcases Nat.lt_or_eq_of_le (Nat.le_of_lt_succ h) with h | rfl
    · have := sumL_at (L := L) h; omega
    · omega
/-- The sum, as it is reckoned. -/
def sumW (L : Nat → List Int) : Nat → Int
  | 0 => 0
  | n + 1 => IntKind.i64.wrap (sumW L n + ((L n).length : Int))
theorem sumW_eq {L : Nat → List Int} {n : Nat} (hn : n ≤ 60) (h : ∀ i, i < n → (L i).length ≤ 140737488351232) : ∀ k, k ≤ n → sumW L k = (sumL L k : Nat)
  | 0, _ => rfl
  | k + 1, hk => by
    have h1 := sumW_eq hn h k (by omega)
    have h2 := sumL_le h k (by omega)
    have h3 := h k (by omega)
    show IntKind.i64.wrap (sumW L k + ((L k).length : Int)) = ((sumL L k + (L k).length : Nat) : Int)
    rw [h1, IntKind.wrap_i64]
    omega
def greatB (L : Nat → List Int) (n : Nat) : Bool := decide (60 < n) || decide (20000 < sumW L n)
theorem great_no {L : Nat → List Int} {n : Nat} (h : ∀ i, i < n → (L i).length ≤ 140737488351232) (hg : greatB L n = false) : n ≤ 60 ∧ ∀ i, i < n → (L i).length ≤ 20000 := by
  unfold greatB at hg
  simp at hg
  refine ⟨hg.1, fun i hi => ?_⟩
  have h1 := sumW_eq hg.1 h n (Nat.le_refl _)
  have h2 := sumL_at (L := L) hi
  omega
theorem st_great (w : World) (v : Value) (n : Nat) (L : Nat → List Int) (hv : RdBB w v n L) : Calls Tryz.prog 22 #[v] w fun e w' => e = .returned (.bool (greatB L n)) ∧ w' = w := by
  obtain ⟨ao, cap, rfl, h1, h2, h3⟩ := hv
  have P3 : Hid _ := h3
  clear h3
  go_enter Tryz.func22, Tryz.ntmps22
  go_wp2_with fail
  go_loopg [3, 8] n (fun g sm i wr => ∃ k : Nat, k + g = n ∧ i = .int .i64 k ∧ sm = .int .i64 (sumW L k) ∧ wr = w)
  case atStart => exact ⟨0, by omega, rfl, rfl, rfl⟩
  case round =>
    obtain ⟨k, hk, rfl, rfl, rfl⟩ := hrel
    by_cases hlt : k < n
    · obtain ⟨b, o, rfl, hat⟩ := P3.out.resolve_left (by omega)
      obtain ⟨u, c0, hr⟩ := hat k hlt
      obtain ⟨ao2, cp2, rfl, -⟩ := hr
      have hS : Hid (sumW L (k + 1) = IntKind.i64.wrap (sumW L k + ((L k).length : Int))) := rfl
      obtain ⟨y, hy⟩ : ∃ y, sumW L (k + 1) = y := ⟨_, rfl⟩
      have HY : Hid (sumW L (k + 1) = y) := hy
      rw [hy] at hS
      have hS' : IntKind.i64.wrap (sumW L k + ((L k).length : Int)) = y := hS.out.symm
      clear hat hy
      go_wp2_with fail
      go_roundg (n - (k + 1))
      case measure => omega
      case rel => exact ⟨k + 1, by omega, by go_num, by rw [HY.out], rfl⟩
    · obtain rfl : k = n := by omega
      by_cases h60 : 60 < k
      · have d1 : decide ((60 : Int) < (k : Int)) = true := by simp; omega
        have e : greatB L k = true := by unfold greatB; rw [decide_eq_true h60]; rfl
        go_wp2_with fail
        go_ret
        rw [e]
        exact ⟨rfl, rfl⟩
      · have d1 : decide ((60 : Int) < (k : Int)) = false := by simp; omega
        have e : greatB L k = decide (20000 < sumW L k) := by unfold greatB; rw [decide_eq_false h60]; rfl
        go_wp2_with fail
        go_ret
        rw [e]
        exact ⟨rfl, rfl⟩
end Go.Proofs.YtokegpajjicehaaGreat

namespace Go.Proofs.YtokegpajjicehaaGreat
open Go.RowKit
set_option linter.unusedVariables false
set_option maxRecDepth 20000

/-- Bytes that were taken, as they came. -/
def Took (w : World) (T : List (Value × List Int)) (s : Sto) : Prop := ∀ p ∈ T, Rd w p.1 p.2 ∧ Bytes p.2 ∧ p.2.length ≤ 20000 ∧ rgE p.2 = 0 ∧ Gone s.M s.L (rgG p.2).t
theorem Took.nil (w : World) (s : Sto) : Took w [] s := fun p hp => by cases hp
theorem Took.old {w : World} {T : List (Value × List Int)} {s : Sto} {l : List Int} (h : Took w T s) (hr : RiseT s.L) (hr' : RiseT (accS s l).L) (hl : s.L.length ≤ s.M) : Took w T (accS s l) := fun p hp => by
  obtain ⟨a, b, c, d, e⟩ := h p hp
  exact ⟨a, b, c, d, tk_old (l := l) hr hr' hl e⟩
theorem Took.new {w : World} {T : List (Value × List Int)} {s : Sto} {l : List Int} {u : Value} (h : Took w T s) (hr : RiseT s.L) (hr' : RiseT (accS s l).L) (hl : s.L.length ≤ s.M) (h0 : tkE s l = 0) (hu : Rd w u l) (hb : Bytes l) (hlen : l.length ≤ 20000) : Took w (T ++ [(u, l)]) (accS s l) := fun p hp => by
  rcases List.mem_append.1 hp with hp | hp
  · exact h.old hr hr' hl p hp
  · rw [List.mem_singleton.1 hp]
    obtain ⟨a, b⟩ := tk_new (l := l) hr hr' hl h0
    exact ⟨hu, hb, hlen, a, b⟩
/-- What was just taken is kept. -/
theorem took_is {s : Sto} {l : List Int} (hr : RiseT s.L) (hr' : RiseT (accS s l).L) (hl : s.L.length ≤ s.M) (h : tkE s l = 0) : tkE (accS s l) l = 12 := by
  obtain ⟨h0, hg⟩ := tk_new (l := l) hr hr' hl h
  have hs : stpE s.M s.L (rgG l) (rgL l) = 0 := by unfold tkE at h; rw [if_pos h0] at h; exact h
  obtain ⟨a, b⟩ := stp_zero hs
  have e : tkL s l = keepS s.M s.L (tkX s.L (rgG l) (rgL l)) := if_pos h
  have hi : isS (accS s l).L (rgG l).t = true := by
    show isS (tkL s l) (rgG l).t = true
    have hr2 : RiseT (tkL s l) := hr'
    refine (is_iff hr2 _).2 ⟨tkX s.L (rgG l) (rgL l), ?_, rfl⟩
    rw [e]
    unfold keepS
    split
    · exact mem_laidS.2 (Or.inl rfl)
    · have hp : 0 < untS s.L (rgG l).t := by
        rcases Nat.eq_zero_or_pos (untS s.L (rgG l).t) with h' | h'
        · exact absurd ⟨by omega, h'⟩ b
        · exact h'
      obtain ⟨h', T, e1, e2, h3, h4, h5, h6, h7⟩ := laid_split (x := tkX s.L (rgG l) (rgL l)) hr a hp
      exact h5
  have := gone_tk (s := accS s l) (l := l) h0 (Or.inl hi)
  rw [if_pos hi] at this
  exact this
theorem sto_acc {w w' : World} {B S R : Nat} {v v' : Value} {rs rs' : Rs} {s : Sto} {l : List Int} (h : StoV w B S R v rs s) (h' : StoV w' B S R v' rs' (accS s l)) : RiseT s.L ∧ RiseT (accS s l).L ∧ s.L.length ≤ s.M := ⟨h.rise, h'.rise, h.lens.1⟩
end Go.Proofs.YtokegpajjicehaaGreat
