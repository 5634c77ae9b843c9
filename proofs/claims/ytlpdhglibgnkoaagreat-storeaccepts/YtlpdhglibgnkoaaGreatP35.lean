/-
  Texts St23, St24, St25 in one.
-/
import Derived.Deep.AppendLies
import Derived.Laws.OwnMore
import Derived.Test.YtlpdhglibgnkoaaGreatP34
namespace Go.Proofs.YtlpdhglibgnkoaaGreat
open Go.RowKit
set_option linter.unusedVariables false
set_option maxRecDepth 20000

/-- How many ticks are less. -/
def lowS (L : List Sn) (k : Int) : Nat := L.countP fun s => decide (s.t < k)
theorem lowS_le (L : List Sn) (k : Int) : lowS L k ≤ L.length := List.countP_le_length
theorem low_zero {L : List Sn} {k : Int} (h : ∀ y ∈ L, k ≤ y.t) : lowS L k = 0 := by
  unfold lowS; rw [List.countP_eq_zero]; intro y hy; have := h y hy; simp; omega
theorem low_lt : ∀ {L : List Sn} (hr : RiseT L) {k : Int} {i : Nat} (hi : i < L.length), (i < lowS L k ↔ (atS L i).t < k)
  | [], _, _, _, h => by simp at h
  | x :: L, hr, k, i, hi => by
    obtain ⟨h1, h2⟩ := List.pairwise_cons.1 hr
    have e : lowS (x :: L) k = lowS L k + if x.t < k then 1 else 0 := by
      unfold lowS; rw [List.countP_cons]; simp
    by_cases hx : x.t < k
    · rw [e, if_pos hx]
      cases i with
      | zero => exact ⟨fun _ => hx, fun _ => by omega⟩
      | succ i =>
        have hi' : i < L.length := by simpa using hi
        have := low_lt h2 (k := k) hi'
        show i + 1 < _ ↔ (atS L i).t < k
        rw [← this]; omega
    · have hz : lowS L k = 0 := low_zero fun y hy => by have := h1 y hy; omega
      rw [e, if_neg hx, hz]
      constructor
      · intro h; omega
      · intro h
        exfalso
        have hm := atS_mem hi
        rcases List.mem_cons.1 hm with q | q
        · rw [q] at h; exact hx h
        · have := h1 _ q; omega
/-- What the document asks of the place. -/
theorem low_is {L : List Sn} (hr : RiseT L) (k : Int) : isS L k = true ↔ lowS L k < L.length ∧ (atS L (lowS L k)).t = k := by
  rw [is_iff hr]
  constructor
  · rintro ⟨y, hy, rfl⟩
    obtain ⟨j, hj, rfl⟩ := List.getElem_of_mem hy
    have e : lowS L L[j].t = j := by
      have a : ¬ j < lowS L L[j].t := by rw [low_lt hr hj, atS_get hj]; omega
      by_cases h0 : lowS L L[j].t = j
      · exact h0
      · exfalso
        have b : lowS L L[j].t < j := by omega
        have c : ¬ lowS L L[j].t < lowS L L[j].t := by omega
        rw [low_lt hr (by omega), atS_get (by omega)] at c
        exact c (List.pairwise_iff_getElem.1 hr _ _ (by omega) hj b)
    rw [e, atS_get hj]; exact ⟨hj, rfl⟩
  · rintro ⟨h1, h2⟩
    exact ⟨_, atS_mem h1, h2⟩
theorem low_unt {L : List Sn} (hr : RiseT L) {k : Int} (h : isS L k = false) : lowS L k = untS L k := by
  unfold lowS untS
  refine List.countP_congr fun y hy => ?_
  have : y.t ≠ k := fun e => by rw [(is_iff hr k).2 ⟨y, hy, e⟩] at h; cases h
  simp; omega
/-- The document's store: its floor. -/
def Flo (M : Nat) (fl : Int) (L : List Sn) : Prop := fl = -1 ∨ (L.length = M ∧ ∀ y ∈ L, fl < y.t)
/-- Why the document's store keeps no datagram. -/
def rfE (M : Nat) (fl : Int) (L : List Sn) (g : Gm) (R : List Rc) : Int :=
  if lowS L g.t < L.length ∧ (atS L (lowS L g.t)).t = g.t then 12
  else if g.t ≤ fl ∨ (lowS L g.t = 0 ∧ L.length = M) then 13
  else if ¬ (g.b < 0 ∨ isS L g.b = true) then 14
  else if tkA L g R ≠ 0 then tkA L g R
  else if (0 < lowS L g.t ∧ (tkX L g R).m ≤ (atS L (lowS L g.t - 1)).m) ∨ (lowS L g.t < L.length ∧ (atS L (lowS L g.t)).m ≤ (tkX L g R).m) then 16 else 0
theorem rf_is {M : Nat} {fl : Int} {L : List Sn} {g : Gm} {R : List Rc} (hr : RiseT L) (hf : Flo M fl L) (ht : 0 ≤ g.t) (hb : -1 ≤ g.b) (hg : Gd L) : rfE M fl L g R = stpE M L g R := by
  unfold rfE stpE
  by_cases h1 : isS L g.t = true
  · rw [if_pos ((low_is hr _).1 h1), if_pos h1]
  · have h1' : isS L g.t = false := by simpa using h1
    have e := low_unt hr h1'
    rw [if_neg (fun h => h1 ((low_is hr _).2 h)), if_neg h1, e]
    have h13 : (g.t ≤ fl ∨ (untS L g.t = 0 ∧ L.length = M)) ↔ (L.length = M ∧ untS L g.t = 0) := by
      constructor
      · rintro (h | h)
        · rcases hf with q | ⟨q1, q2⟩
          · omega
          · refine ⟨q1, ?_⟩
            rw [← e]; exact low_zero fun y hy => by have := q2 y hy; omega
        · exact ⟨h.2, h.1⟩
      · rintro ⟨a, b⟩; exact Or.inr ⟨b, a⟩
    have h14 : (¬ (g.b < 0 ∨ isS L g.b = true)) ↔ (g.b ≠ -1 ∧ isS L g.b = false) := by
      constructor
      · intro h; refine ⟨fun q => h (Or.inl (by omega)), ?_⟩
        cases q : isS L g.b with
        | true => exact absurd (Or.inr q) h
        | false => rfl
      · rintro ⟨a, b⟩ (h | h)
        · omega
        · rw [b] at h; cases h
    have h16 : ((0 < untS L g.t ∧ (tkX L g R).m ≤ (atS L (untS L g.t - 1)).m) ∨ (untS L g.t < L.length ∧ (atS L (untS L g.t)).m ≤ (tkX L g R).m)) ↔ lateB L (tkX L g R) = true := by
      unfold lateB
      have : (tkX L g R).t = g.t := rfl
      rw [this]; simp
    simp only [h13, h14, h16]
/-- What the document's store keeps: the same; and its floor. -/
def rfF (M : Nat) (fl : Int) (L : List Sn) (x : Sn) : Int := if M < (laidS L x).length then (atS (laidS L x) 0).t else fl
theorem flo_keep {M : Nat} {fl : Int} {L : List Sn} {x : Sn} (hr : RiseT L) (hf : Flo M fl L) (hM : L.length ≤ M) (hn : isS L x.t = false) (hx : ¬ (L.length = M ∧ untS L x.t = 0)) (hf2 : fl = -1 ∨ fl < x.t) : Flo M (rfF M fl L x) (keepS M L x) := by
  have hl := laidS_len L x
  unfold rfF keepS
  by_cases h : L.length < M
  · rw [if_neg (by omega), if_pos h]
    rcases hf with q | ⟨q1, q2⟩
    · exact Or.inl q
    · omega
  · rw [if_pos (by omega), if_neg h]
    right
    have hp : 0 < untS L x.t := by
      rcases Nat.eq_zero_or_pos (untS L x.t) with q | q
      · exact absurd ⟨by omega, q⟩ hx
      · exact q
    obtain ⟨h', T, e1, e2, h3, h4, h5, h6, h7⟩ := laid_split (x := x) hr hn hp
    refine ⟨by rw [List.length_tail, hl]; omega, fun y hy => ?_⟩
    have := h7 y hy
    rw [e2]
    exact this
/-- The place where the document's store lays it. -/
theorem low_laid {L : List Sn} {x : Sn} (hr : RiseT L) (hn : isS L x.t = false) : laidS L x = L.take (lowS L x.t) ++ x :: L.drop (lowS L x.t) := by
  unfold laidS; rw [low_unt hr hn]
end Go.Proofs.YtlpdhglibgnkoaaGreat

namespace Go.Proofs.YtlpdhglibgnkoaaGreat
open Go.RowKit
set_option linter.unusedVariables false
set_option maxRecDepth 20000

theorem snC_take : ∀ (Z : List Tri) (q : Nat), (snC Z).take (q * 3) = snC (Z.take q)
  | [], q => by simp [snC]
  | p :: Z, 0 => rfl
  | p :: Z, q + 1 => by
    show ([.int .i64 p.1, .int .i64 p.2.1, p.2.2] ++ snC Z).take ((q + 1) * 3) = [.int .i64 p.1, .int .i64 p.2.1, p.2.2] ++ snC (Z.take q)
    rw [← snC_take Z q, show (q + 1) * 3 = q * 3 + 3 by omega]; rfl
theorem snC_drop : ∀ (Z : List Tri) (q : Nat), (snC Z).drop (q * 3) = snC (Z.drop q)
  | [], q => by simp [snC]
  | p :: Z, 0 => rfl
  | p :: Z, q + 1 => by
    show ([.int .i64 p.1, .int .i64 p.2.1, p.2.2] ++ snC Z).drop ((q + 1) * 3) = snC (Z.drop q)
    rw [← snC_drop Z q, show (q + 1) * 3 = q * 3 + 3 by omega]; rfl
theorem snC_tail {Z : List Tri} (h : Z ≠ []) (j : Nat) : (snC Z.tail)[j]? = (snC Z)[j + 3]? := by
  cases Z with
  | nil => exact absurd rfl h
  | cons p Z => rfl
/-- Each value of the entities is one cell. -/
def OneS (Z : List Tri) : Prop := ∀ p ∈ Z, p.2.2.oneCell' = true
theorem OneS.cells {Z : List Tri} (h : OneS Z) : ∀ y ∈ snC Z, y.oneCell' = true := by
  intro y hy
  unfold snC at hy
  obtain ⟨p, hp, hy⟩ := List.mem_flatMap.1 hy
  simp only [List.mem_cons, List.not_mem_nil, or_false] at hy
  rcases hy with rfl | rfl | rfl
  · rfl
  · rfl
  · exact h p hp
theorem OneS.take {Z : List Tri} (h : OneS Z) (q : Nat) : OneS (Z.take q) := fun p hp => h p (List.mem_of_mem_take hp)
theorem OneS.drop {Z : List Tri} (h : OneS Z) (q : Nat) : OneS (Z.drop q) := fun p hp => h p (List.mem_of_mem_drop hp)

/-- A value that reads as these snapshots' cells, wherever it begins: a row of snapshots, from block B on. -/
def RdT (w : World) (B : Nat) (u : Value) (Z : List Tri) : Prop :=
  ∃ ao cap, u = .slice ao Z.length cap ∧ Z.length ≤ cap ∧ cap ≤ 9223372036854775807 ∧ (ao = none → cap = 0) ∧ (∀ a, ao = some a → ∃ b o, a = ⟨b, o, none⟩ ∧ B ≤ b ∧ ∃ cur, w.heap[b]? = some (.cells cur 45 (0, 0))) ∧ (∀ b o, ao = some ⟨b, o, none⟩ → ∀ j x, (snC Z)[j]? = some x → w.cell? ⟨b, o + j, none⟩ = some x)
theorem RdT.nil (w : World) (B : Nat) : RdT w B (.slice none 0 0) [] :=
  ⟨none, 0, rfl, Nat.le_refl _, by omega, fun _ => rfl, (fun a h => by cases h), (fun b o h => by cases h)⟩
theorem RdT.blk {w : World} {B : Nat} {u : Value} {Z : List Tri} (h : RdT w B u Z) : ∀ k, u.ownBlock = some k → B ≤ k ∧ k < w.heap.size ∧ ∃ cur, w.heap[k]? = some (.cells cur 45 (0, 0)) := by
  intro k hk
  obtain ⟨ao, cap, rfl, _, _, _, h4, _⟩ := h
  rcases ao with _ | a
  · cases hk
  · obtain ⟨b, o, rfl, hB, cur, hc⟩ := h4 a rfl
    have : b = k := Option.some.inj hk
    subst this
    exact ⟨hB, (Array.getElem?_eq_some_iff.1 hc).1, cur, hc⟩
theorem RdT.same {w w' : World} {B : Nat} {u : Value} {Z : List Tri} (h : RdT w B u Z) (hb : ∀ k, u.ownBlock = some k → w'.heap[k]? = w.heap[k]?) : RdT w' B u Z := by
  obtain ⟨ao, cap, rfl, h1, h2, h3, h4, h5⟩ := h
  refine ⟨ao, cap, rfl, h1, h2, h3, fun a ha => ?_, fun b o ha j x hx => ?_⟩
  · obtain ⟨b, o, rfl, hB, cur, hc⟩ := h4 a ha
    refine ⟨b, o, rfl, hB, cur, (hb b ?_).trans hc⟩
    rw [ha]; rfl
  · have e := hb b (by rw [ha]; rfl)
    exact (World.cell?_of_block (w := w) (a := ⟨b, o + j, none⟩) e).trans (h5 b o ha j x hx)
theorem RdT.below {w w' : World} {B : Nat} {u : Value} {Z : List Tri} (h : RdT w B u Z) (hb : Below w.heap.size w w') : RdT w' B u Z :=
  h.same fun k hk => hb.block k (h.blk k hk).2.1
theorem RdT.of_own {w : World} {B : Nat} {v : Value} {Z : List Tri} (h : OwnS w B v Z) : RdT w B v Z := by
  rcases h.2 with ⟨rfl, h0⟩ | ⟨g, cap, cur, hv, hb, hg, hc, hm, hs, ht⟩
  · have : Z = [] := List.eq_nil_of_length_eq_zero h0
    subst this
    exact RdT.nil w B
  · refine ⟨_, cap, hv, hc, hm, fun e => (by cases e), fun a ha => ⟨g, 0, (by injection ha with ha; exact ha.symm), hb, cur, hg⟩, fun b o ha j x hx => ?_⟩
    injection ha with ha; injection ha with h1 h2 _
    subst h1; subst h2
    rw [Nat.zero_add]
    have hj : j < Z.length * 3 := by have := (List.getElem?_eq_some_iff.1 hx).1; rwa [snC_len] at this
    rw [row_cell hg, ← hx, ← ht, List.getElem?_take, if_pos hj]
    simp
theorem OwnS.mono {w : World} {B C : Nat} {v : Value} {Z : List Tri} (h : OwnS w B v Z) (hC : C ≤ B) : OwnS w C v Z := by
  refine ⟨h.1, ?_⟩
  rcases h.2 with hn | ⟨g, cap, cur, hv, hB, rest⟩
  · exact Or.inl hn
  · exact Or.inr ⟨g, cap, cur, hv, Nat.le_trans hC hB, rest⟩
theorem RdT.tail_own {w : World} {B g m cap : Nat} {Z : List Tri} (h : OwnS w B (.slice (some ⟨g, 0, none⟩) (m + 1) cap) Z) (hl : Z.length = m + 1) (ao : Option Addr) (ha : ao = if cap = 1 then some ⟨g, 0, none⟩ else some ⟨g, 3, none⟩) : RdT w B (.slice ao m (cap - 1)) Z.tail := by
  have hL : Z ≠ [] := by intro e; rw [e] at hl; simp at hl
  obtain ⟨ao', cap', hv, _, _, _, h4, h5⟩ := RdT.of_own h
  injection hv with h1 h2 h3; subst h1; subst h3
  obtain ⟨b, o, hb, hB, cur, hc⟩ := h4 _ rfl
  injection hb with e1 e2 _
  subst e1; subst e2
  have htl : Z.tail.length = m := by rw [List.length_tail]; omega
  have hcap : Z.length ≤ cap := by
    rcases h.2 with ⟨hn, h0⟩ | ⟨g', cap', cur', hv, _, _, hc', _⟩
    · omega
    · injection hv
  have hmx : cap ≤ 9223372036854775807 := by
    rcases h.2 with ⟨hn, h0⟩ | ⟨g', cap', cur', hv, _, _, hc', hm', _⟩
    · cases hn
    · injection hv
  refine ⟨ao, cap - 1, by rw [htl], by omega, by omega, fun e => (by rw [ha] at e; split at e <;> cases e), fun a e => ?_, fun b' o' e j x hx => ?_⟩
  · rw [ha] at e
    split at e <;> (injection e with e; subst e; exact ⟨g, _, rfl, hB, cur, hc⟩)
  · rw [snC_tail hL] at hx
    have hj : j + 3 < Z.length * 3 := by have := (List.getElem?_eq_some_iff.1 hx).1; rwa [snC_len] at this
    rw [ha, if_neg (by omega)] at e
    injection e with e; injection e with h1 h2 _
    subst h1; subst h2
    have := h5 g 0 rfl (j + 3) x hx
    rw [Nat.zero_add] at this
    rw [Nat.add_comm 3 j]
    exact this
/-- A new row without snapshots. -/
theorem ownS_empty {w W : World} (h : w.alloc (.cells #[] 45) = W) : OwnS W w.heap.size (.slice (some ⟨w.heap.size, 0, none⟩) 0 0) [] := by
  subst h
  exact ⟨rfl, Or.inr ⟨w.heap.size, 0, #[], rfl, Nat.le_refl _, heap_alloc_new w _, Nat.le_refl _, by unfold maxLen; omega, rfl, rfl⟩⟩
theorem appS_op {w : World} {o : Oper} {a : Act} {K : Act → World → Prop} {Q : Exit → Act → World → Prop} (s x : Operand)
    (ho : o.op = .call { callee := .builtin .append, args := #[s, x], argTypes := #[38, 38] })
    (B : Nat) (v : Value) (L : List Tri) (hs : a.eval s = v) (hown : OwnS w B v L) (ao : Option Addr) (m c : Nat) (N : List Tri) (hx : a.eval x = .slice ao m c) (hm : N.length = m) (hnone : ao = none → m = 0 ∧ c = 0)
    (hr : ∀ ad, ao = some ad → ∀ j u, (snC N)[j]? = some u → w.cell? (ad.add j) = some u) (h1 : OneS N) (hlen : L.length + N.length ≤ 1000000) (hB : B ≤ w.heap.size)
    (h : ∀ v' w', OwnS w' B v' (L ++ N) → Grow B v w v' w' → K (a.put o.dst v') w') : o.wp Tryz.prog a w K Q := by
  obtain ⟨i0, hi, hz0, hz1, hz2⟩ := info_parts infoSn
  rcases ao with _ | ad
  · obtain ⟨rfl, rfl⟩ := hnone rfl
    have hN : N = [] := List.eq_nil_of_length_eq_zero hm
    subst hN
    have hrun := run_append_owned_none (P := Tryz.prog) (w := w) B 38 o.type 45 i0 3 Tryz.underlying38 hi v L.length (snC L) hown
    unfold Oper.wp
    simp [execOp, ho, resolve, invoke, builtin, hs, hx, hrun, Result.andThen]
    exact h v w (by rw [List.append_nil]; exact hown) ⟨Below.refl _ _, grown_refl _ _, Or.inl rfl⟩
  · obtain ⟨v', w', hrun, h2, h3, _, h5⟩ := run_append_own_at (P := Tryz.prog) w B 38 o.type 45 i0 (.agg #[.int .i64 0, .int .i64 0, .slice none 0 0]) 3 40 Tryz.underlying38 hi hz0 hz1 hz2 rfl (by decide) v L.length (snC L) hown ad m c (snC N) (by rw [snC_len, hm]) (hr ad rfl) h1.cells (by unfold maxLen; omega) (by omega) hB
    unfold Oper.wp
    simp [execOp, ho, resolve, invoke, builtin, hs, hx, hrun, Result.andThen]
    refine h v' w' ?_ ⟨(Below.refl B w).grown h3 hB (fun k hk => (World.ownsRow.lt hown k hk).1), h3, h5⟩
    unfold OwnS
    rw [List.length_append, hm, snC_app]
    exact h2
theorem appS_wp {w : World} {ops : Array Oper} {rest : List Oper} {o : Oper} {a : Act} {Q : Exit → Act → World → Prop} (hgd : o.guard = none) (s x : Operand)
    (ho : o.op = .call { callee := .builtin .append, args := #[s, x], argTypes := #[38, 38] })
    (B : Nat) (v : Value) (L : List Tri) (hs : a.eval s = v) (hown : OwnS w B v L) (ao : Option Addr) (m c : Nat) (N : List Tri) (hx : a.eval x = .slice ao m c) (hm : N.length = m) (hnone : ao = none → m = 0 ∧ c = 0)
    (hr : ∀ ad, ao = some ad → ∀ j u, (snC N)[j]? = some u → w.cell? (ad.add j) = some u) (h1 : OneS N) (hlen : L.length + N.length ≤ 1000000) (hB : B ≤ w.heap.size)
    (h : ∀ v' w', OwnS w' B v' (L ++ N) → Grow B v w v' w' → wpList Tryz.prog ops Q rest (a.put o.dst v') w') : wpList Tryz.prog ops Q (o :: rest) a w :=
  wpList_plain hgd fun K hK => appS_op s x ho B v L hs hown ao m c N hx hm hnone hr h1 hlen hB fun v' w' h1 h2 => hK _ _ (h v' w' h1 h2)
theorem appS_step {w : World} {ops : Array Oper} {o : Oper} {a : Act} {K : Act → World → Prop} {Q : Exit → Act → World → Prop} {E : Prop} (hgd : o.guard = none) (d : Option Nat) (hd : o.dst = d) (s x : Operand)
    (ho : o.op = .call { callee := .builtin .append, args := #[s, x], argTypes := #[38, 38] })
    (B : Nat) (v : Value) (L : List Tri) (hs : a.eval s = v) (hown : OwnS w B v L) (ao : Option Addr) (m c : Nat) (N : List Tri) (hx : a.eval x = .slice ao m c) (hm : N.length = m) (hnone : ao = none → m = 0 ∧ c = 0)
    (hr : ∀ ad, ao = some ad → ∀ j u, (snC N)[j]? = some u → w.cell? (ad.add j) = some u) (h1 : OneS N) (hlen : L.length + N.length ≤ 1000000) (hB : B ≤ w.heap.size)
    (h : ∀ v' w', OwnS w' B v' (L ++ N) → Grow B v w v' w' → K (a.put d v') w') :
    if Region.wanted o (yielded ops a.tmps) = true then Oper.wp Tryz.prog o a w K Q else E := by
  subst hd
  have hw : Region.wanted o (yielded ops a.tmps) = true := by simp [Region.wanted, hgd]
  rw [if_pos hw]
  exact appS_op s x ho B v L hs hown ao m c N hx hm hnone hr h1 hlen hB h

/-- Cells that tell snapshots, whose entities lie from block B on. -/
def TelS (w : World) (B : Nat) : List Tri → List Sn → Prop
  | [], [] => True
  | p :: Z, s :: L => (p.1 = s.t ∧ p.2.1 = s.m ∧ OwnE w B p.2.2 s.E) ∧ TelS w B Z L
  | _, _ => False
theorem TelS.len {w : World} {B : Nat} : ∀ {Z : List Tri} {L : List Sn}, TelS w B Z L → Z.length = L.length
  | [], [], _ => rfl
  | _ :: _, _ :: _, h => by simp [TelS.len h.2]
theorem TelS.mono {w w' : World} {B : Nat} (hm : ∀ u E, OwnE w B u E → OwnE w' B u E) : ∀ {Z : List Tri} {L : List Sn}, TelS w B Z L → TelS w' B Z L
  | [], [], _ => trivial
  | _ :: _, _ :: _, h => ⟨⟨h.1.1, h.1.2.1, hm _ _ h.1.2.2⟩, TelS.mono hm h.2⟩
theorem TelS.below {w w' : World} {B : Nat} {Z : List Tri} {L : List Sn} (h : TelS w B Z L) (hb : Below w.heap.size w w') : TelS w' B Z L := h.mono fun _ _ o => o.below hb
theorem TelS.take {w : World} {B : Nat} : ∀ {Z : List Tri} {L : List Sn}, TelS w B Z L → ∀ q, TelS w B (Z.take q) (L.take q)
  | [], [], _, q => by simp [TelS]
  | _ :: _, _ :: _, _, 0 => trivial
  | _ :: _, _ :: _, h, q + 1 => ⟨h.1, TelS.take h.2 q⟩
theorem TelS.drop {w : World} {B : Nat} : ∀ {Z : List Tri} {L : List Sn}, TelS w B Z L → ∀ q, TelS w B (Z.drop q) (L.drop q)
  | [], [], _, q => by simp [TelS]
  | _ :: _, _ :: _, h, 0 => h
  | _ :: _, _ :: _, h, q + 1 => TelS.drop h.2 q
theorem TelS.app {w : World} {B : Nat} : ∀ {Z : List Tri} {L : List Sn} {Z' : List Tri} {L' : List Sn}, TelS w B Z L → TelS w B Z' L' → TelS w B (Z ++ Z') (L ++ L')
  | [], [], _, _, _, h' => h'
  | _ :: _, _ :: _, _, _, h, h' => ⟨h.1, TelS.app h.2 h'⟩
theorem TelS.tail {w : World} {B : Nat} {Z : List Tri} {L : List Sn} (h : TelS w B Z L) : TelS w B Z.tail L.tail := by
  cases Z <;> cases L
  · exact trivial
  · exact h.elim
  · exact h.elim
  · exact h.2
theorem TelS.at {w : World} {B : Nat} : ∀ {Z : List Tri} {L : List Sn}, TelS w B Z L → ∀ i (h : i < Z.length), Z[i].1 = (atS L i).t ∧ Z[i].2.1 = (atS L i).m ∧ OwnE w B Z[i].2.2 (atS L i).E
  | _ :: _, _ :: _, h, 0, _ => h.1
  | _ :: Z, _ :: L, h, i + 1, hi => TelS.at h.2 i (by simpa using hi)
theorem ownE_one {w : World} {B : Nat} {u : Value} {E : List En} (h : OwnE w B u E) : u.oneCell' = true := by
  obtain ⟨ao, cap, rfl⟩ := h.form; rfl
theorem TelS.one {w : World} {B : Nat} : ∀ {Z : List Tri} {L : List Sn}, TelS w B Z L → OneS Z
  | [], [], _ => fun p hp => by cases hp
  | _ :: _, _ :: _, h => fun p hp => by
    rcases List.mem_cons.1 hp with rfl | hp
    · exact ownE_one h.1.2.2
    · exact TelS.one h.2 p hp
/-! a store into a block ahead of them -/
theorem RdT.set {w : World} {K o : Nat} {x u : Value} {Z : List Tri} (h : RdT w (K + 1) u Z) : RdT (w.setCell ⟨K, o, none⟩ x) (K + 1) u Z :=
  h.same fun k hk => heap_setCell_other w ⟨K, o, none⟩ k x (fun e => by have := (h.blk k hk).1; have e' : k = K := e; omega)
theorem TelS.set {w : World} {K o : Nat} {x : Value} {Z : List Tri} {L : List Sn} (h : TelS w (K + 1) Z L) : TelS (w.setCell ⟨K, o, none⟩ x) (K + 1) Z L := h.mono fun _ _ q => q.set (Nat.lt_succ_self K)
theorem typ_set {w : World} {k o : Nat} {x : Value} {e : TypeId} (h : ∃ cur, w.heap[k]? = some (.cells cur e (0, 0))) : ∃ cur, (w.setCell ⟨k, o, none⟩ x).heap[k]? = some (.cells cur e (0, 0)) := by
  obtain ⟨cur, hc⟩ := h
  exact ⟨_, heap_setCell_same w k o cur e x hc⟩
/-- The document's store at block K. -/
structure RefS (w : World) (K : Nat) (v : Value) (fl : Int) (s : Sto) : Prop where
  blk : Blk w K (v :: .int .i64 (s.M : Nat) :: .int .i64 fl :: s.N.map fun x => .int .i64 x)
  typ : ∃ cur, w.heap[K]? = some (.cells cur 41 (0, 0))
  row : ∃ Z, RdT w (K + 1) v Z ∧ TelS w (K + 1) Z s.L
  flo : Flo s.M fl s.L
theorem RefS.below {w w' : World} {K : Nat} {v : Value} {fl : Int} {s : Sto} (h : RefS w K v fl s) (hb : Below w.heap.size w w') : RefS w' K v fl s := by
  obtain ⟨Z, h1, h2⟩ := h.row
  obtain ⟨cur, hc⟩ := h.typ
  exact ⟨h.blk.below hb h.blk.lt, ⟨cur, (hb.block K h.blk.lt).trans hc⟩, ⟨Z, h1.below hb, h2.below hb⟩, h.flo⟩
theorem rf_new (w : World) (M : Nat) : Calls Tryz.prog 8 #[.int .i64 (M : Nat)] w fun e w' => e = .returned (.pointer (some ⟨w.heap.size, 0, none⟩)) ∧ RefS w' w.heap.size (.slice none 0 0) (-1) (emptyS M) ∧ Below w.heap.size w w' ∧ w'.heap.size = w.heap.size + 1 := by
  go_enter Tryz.func8, Tryz.ntmps8
  go_wp2_with fail
  go_ret
  refine ⟨rfl, ⟨?_, ⟨_, heap_alloc_new w _⟩, ⟨[], RdT.nil _ _, trivial⟩, Or.inl rfl⟩, ?_, by simp⟩
  · exact Blk.new w _ _ (by simp)
  · exact (Below.refl _ w).alloc (Nat.le_refl _) _
end Go.Proofs.YtlpdhglibgnkoaaGreat

namespace Go.Proofs.YtlpdhglibgnkoaaGreat
open Go.RowKit
set_option linter.unusedVariables false
set_option maxRecDepth 20000

theorem low_eq {L : List Sn} (hr : RiseT L) {k : Int} {q : Nat} (hq : q ≤ L.length) (h1 : ∀ t, t < q → (atS L t).t < k) (h2 : q < L.length → k ≤ (atS L q).t) : lowS L k = q := by
  have hle := lowS_le L k
  rcases Nat.lt_trichotomy (lowS L k) q with h | h | h
  · have a := h1 _ h
    have := (low_lt hr (k := k) (i := lowS L k) (by omega)).2 a
    omega
  · exact h
  · have a := (low_lt hr (k := k) (i := q) (by omega)).1 h
    have := h2 (by omega)
    omega
/-- What the loop over all that is kept has found: the base, and whether there is one. -/
def bsK (L : List Sn) (b : Int) : Nat → Sn
  | 0 => noSn
  | k + 1 => if (atS L k).t = b then atS L k else bsK L b k
def thK (L : List Sn) (b : Int) : Nat → Bool
  | 0 => decide (b < 0)
  | k + 1 => if (atS L k).t = b then true else thK L b k
theorem bs_at (L : List Sn) (b : Int) : ∀ k, (∃ j, j < k ∧ (atS L j).t = b ∧ bsK L b k = atS L j ∧ thK L b k = true) ∨ ((∀ j, j < k → (atS L j).t ≠ b) ∧ bsK L b k = noSn ∧ thK L b k = decide (b < 0))
  | 0 => Or.inr ⟨fun j h => absurd h (Nat.not_lt_zero j), rfl, rfl⟩
  | k + 1 => by
    by_cases h : (atS L k).t = b
    · exact Or.inl ⟨k, Nat.lt_succ_self k, h, by simp [bsK, h], by simp [thK, h]⟩
    · rcases bs_at L b k with ⟨j, h1, h2, h3, h4⟩ | ⟨h1, h2, h3⟩
      · exact Or.inl ⟨j, by omega, h2, by simp [bsK, h, h3], by simp [thK, h, h4]⟩
      · refine Or.inr ⟨fun j hj => ?_, by simp [bsK, h, h2], by simp [thK, h, h3]⟩
        rcases Nat.lt_or_ge j k with q | q
        · exact h1 j q
        · obtain rfl : j = k := by omega
          exact h
theorem rise_one {L : List Sn} (hr : RiseT L) {i j : Nat} (hi : i < L.length) (hj : j < L.length) (h : (atS L i).t = (atS L j).t) : i = j := by
  rw [atS_get hi, atS_get hj] at h
  rcases Nat.lt_trichotomy i j with q | q | q
  · have := List.pairwise_iff_getElem.1 hr i j hi hj q; omega
  · exact q
  · have := List.pairwise_iff_getElem.1 hr j i hj hi q; omega
theorem bs_all {L : List Sn} (hr : RiseT L) (hg : Gd L) {b : Int} (hb : -1 ≤ b) : bsK L b L.length = tkB L b ∧ (thK L b L.length = true ↔ (b < 0 ∨ isS L b = true)) := by
  have hnn : ∀ j, j < L.length → 0 ≤ (atS L j).t := fun j hj => by
    have := hg.good _ (atS_mem hj)
    have := sn_ok this; omega
  rcases bs_at L b L.length with ⟨j, h1, h2, h3, h4⟩ | ⟨h1, h2, h3⟩
  · have his : isS L b = true := (is_iff hr b).2 ⟨_, atS_mem h1, h2⟩
    have hb0 : b ≠ -1 := by have := hnn j h1; omega
    refine ⟨?_, by rw [h4, his]; simp⟩
    unfold tkB getS
    rw [if_neg hb0, if_pos his, h3]
    unfold isS at his
    simp at his
    have hu := untS_le L b
    have : j = untS L b - 1 := rise_one hr h1 (by omega) (by rw [h2, his.2])
    rw [this]
  · have his : isS L b = false := by
      cases q : isS L b with
      | false => rfl
      | true =>
        obtain ⟨y, hy, hyt⟩ := (is_iff hr b).1 q
        obtain ⟨j, hj, rfl⟩ := List.getElem_of_mem hy
        exact absurd (by rw [atS_get hj]; exact hyt) (h1 j hj)
    refine ⟨?_, by rw [h3, his]; simp⟩
    unfold tkB getS
    rw [h2, his]
    split <;> rfl
section
variable {M : Nat} {fl : Int} {L : List Sn} {g : Gm} {R : List Rc}
theorem rfE_12 (hr : RiseT L) (h : isS L g.t = true) : rfE M fl L g R = 12 := by
  unfold rfE; rw [if_pos ((low_is hr _).1 h)]
theorem rfE_13 (hr : RiseT L) (h : isS L g.t = false) (h2 : g.t ≤ fl ∨ (lowS L g.t = 0 ∧ L.length = M)) : rfE M fl L g R = 13 := by
  unfold rfE; rw [if_neg (fun q => by rw [(low_is hr _).2 q] at h; cases h), if_pos h2]
theorem rfE_14 (hr : RiseT L) (h : isS L g.t = false) (h2 : ¬ (g.t ≤ fl ∨ (lowS L g.t = 0 ∧ L.length = M))) (h3 : ¬ (g.b < 0 ∨ isS L g.b = true)) : rfE M fl L g R = 14 := by
  unfold rfE; rw [if_neg (fun q => by rw [(low_is hr _).2 q] at h; cases h), if_neg h2, if_pos h3]
theorem rfE_A (hr : RiseT L) (h : isS L g.t = false) (h2 : ¬ (g.t ≤ fl ∨ (lowS L g.t = 0 ∧ L.length = M))) (h3 : g.b < 0 ∨ isS L g.b = true) (h4 : tkA L g R ≠ 0) : rfE M fl L g R = tkA L g R := by
  unfold rfE; rw [if_neg (fun q => by rw [(low_is hr _).2 q] at h; cases h), if_neg h2, if_neg (fun q => q h3), if_pos h4]
theorem rfE_end (hr : RiseT L) (h : isS L g.t = false) (h2 : ¬ (g.t ≤ fl ∨ (lowS L g.t = 0 ∧ L.length = M))) (h3 : g.b < 0 ∨ isS L g.b = true) (h4 : tkA L g R = 0) :
    rfE M fl L g R = if (0 < lowS L g.t ∧ g.m ≤ (atS L (lowS L g.t - 1)).m) ∨ (lowS L g.t < L.length ∧ (atS L (lowS L g.t)).m ≤ g.m) then 16 else 0 := by
  unfold rfE; rw [if_neg (fun q => by rw [(low_is hr _).2 q] at h; cases h), if_neg h2, if_neg (fun q => q h3), if_neg (fun q => q h4)]; rfl
end
/-- What is kept when something isn't. -/
theorem tk_none {s : Sto} {l : List Int} (h : tkE s l ≠ 0) : tkT s l = 0 ∧ tkL s l = s.L := ⟨if_neg h, if_neg h⟩
theorem tk_read {s : Sto} {l : List Int} (h : rgE l ≠ 0) : tkE s l = rgE l := if_neg h
theorem tk_ref {s : Sto} {l : List Int} {fl : Int} (hb : Bytes l) (hr : RiseT s.L) (hg : Gd s.L) (hf : Flo s.M fl s.L) (h : rgE l = 0) : tkE s l = rfE s.M fl s.L (rgG l) (rgL l) := by
  obtain ⟨_, _, h0, _⟩ := one_gram hb h
  obtain ⟨q1, q2, q3, q4, _⟩ := hed_ok (gm_head h0)
  rw [rf_is hr hf (by omega) (by omega) hg]
  unfold tkE; rw [if_pos h]
end Go.Proofs.YtlpdhglibgnkoaaGreat
