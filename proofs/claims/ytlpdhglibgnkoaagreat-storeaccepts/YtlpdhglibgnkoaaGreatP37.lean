/-
  Texts St27 in one.
-/
import Derived.Deep.RegionHeld3
import Derived.Test.YtlpdhglibgnkoaaGreatP36
namespace Go.Proofs.YtlpdhglibgnkoaaGreat
open Go.RowKit
set_option linter.unusedVariables false
set_option maxRecDepth 20000

theorem Ch.drewN {R : Nat} {a w : World} (h : Ch R a w) (n : Nat) : Ch R a (w.drewN n) := h.trans ⟨below_drewN (Below.refl _ _) n, fun _ _ _ => rfl⟩
/-- A count goes up. -/
theorem RefS.count {w : World} {K : Nat} {v : Value} {fl : Int} {s : Sto} (h : RefS w K v fl s) (hn : s.N.length = 18) (e : Nat) (he : e < 18) :
    w.cell? ⟨K, 3 + e, none⟩ = some (.int .i64 (s.N.getD e 0)) ∧ RefS (w.setCell ⟨K, 3 + e, none⟩ (.int .i64 (IntKind.i64.wrap (s.N.getD e 0 + 1)))) K v fl { s with N := incN s.N e } := by
  have hg : s.N[e]? = some (s.N.getD e 0) := by
    rw [List.getD, List.getElem?_eq_getElem (by omega)]; rfl
  refine ⟨h.blk.cell (3 + e) _ (by rw [show 3 + e = e + 1 + 1 + 1 by omega]; simp only [List.getElem?_cons_succ, List.getElem?_map, hg]; rfl), ?_⟩
  obtain ⟨Z, h1, h2⟩ := h.row
  refine ⟨?_, typ_set h.typ, ⟨Z, h1.set, h2.set⟩, h.flo⟩
  have := h.blk.set (3 + e) (.int .i64 (IntKind.i64.wrap (s.N.getD e 0 + 1))) (by simp; omega)
  have e1 : (v :: Value.int .i64 (s.M : Nat) :: Value.int .i64 fl :: s.N.map fun x => Value.int .i64 x).set (3 + e) (.int .i64 (IntKind.i64.wrap (s.N.getD e 0 + 1))) = v :: Value.int .i64 (s.M : Nat) :: Value.int .i64 fl :: (incN s.N e).map fun x => Value.int .i64 x := by
    rw [show 3 + e = e + 1 + 1 + 1 by omega]
    simp only [List.set_cons_succ, incN, Int.toNat_natCast, List.map_set]
  rw [e1] at this
  exact this
theorem RefS.drewN {w : World} {K : Nat} {v : Value} {fl : Int} {s : Sto} (h : RefS w K v fl s) (n : Nat) : RefS (w.drewN n) K v fl s := h.below (below_drewN (Below.refl _ _) n)
set_option maxHeartbeats 4000000 in
theorem rf_Accept (w : World) (K : Nat) (v : Value) (fl : Int) (s : Sto) (h : RefS w K v fl s) (hN : s.N.length = 18) (hr : RiseT s.L) (hg : Gd s.L) (hle : s.L.length ≤ s.M) (hM : s.M ≤ 64) (vb : Value) (l : List Int) (hb : Bytes l) (hl : l.length ≤ 140737488355328) (hrd : Rd w vb l) :
    Calls Tryz.prog 10 #[.pointer (some ⟨K, 0, none⟩), vb] w fun e w' => e = .returned (.tuple #[.int .i64 (tkT s l), .int .i64 (tkE s l)]) ∧ ∃ v' fl', RefS w' K v' fl' (accS s l) ∧ Ch K w w' := by
  have HT : Hid (Calls Tryz.prog 20 #[.pointer (some ⟨K, 0, none⟩), vb] w fun e w' => e = .returned (.tuple #[.int .i64 (tkT s l), .int .i64 (tkE s l)]) ∧ ∃ v' fl', RefS w' K v' fl' ⟨s.M, tkL s l, s.N⟩ ∧ Ch K w w') := rf_accept w K v fl s h hr hg hle hM vb l hb hl hrd
  have eb := eb_acc s l
  have HAS : Hid (∀ n : Nat, tkE s l = n → accS s l = { (⟨s.M, tkL s l, s.N⟩ : Sto) with N := incN s.N n }) := fun n hn => by unfold accS; rw [hn]
  obtain ⟨n, hn⟩ : ∃ n : Nat, tkE s l = n := ⟨(tkE s l).toNat, by have := eb.1; omega⟩
  have hA := HAS.out n hn
  rw [hA]
  rw [hn] at HT
  rw [hn]
  have hn17 : n < 18 := by have := eb.2; omega
  obtain ⟨TT, hTT⟩ : ∃ x, tkT s l = x := ⟨_, rfl⟩
  obtain ⟨s', hs'⟩ : ∃ x : Sto, (⟨s.M, tkL s l, s.N⟩ : Sto) = x := ⟨_, rfl⟩
  have hNN : s.N = s'.N := by rw [← hs']
  rw [hTT, hs'] at HT
  rw [hTT, hs', hNN]
  rw [hNN] at hN
  clear hA HAS eb hn hTT hs' hNN h hr hb hg hle
  go_enter Tryz.func10, Tryz.ntmps10
  go_wp2_with fail
  refine HT.out.mono ?_; rintro e w1 ⟨rfl, v1, fl1, S1, C1⟩
  obtain ⟨k1, K1⟩ := S1.count hN n hn17
  obtain ⟨x, hx⟩ : ∃ x, s'.N.getD n 0 = x := ⟨_, rfl⟩
  rw [hx] at k1 K1
  have z1 := S1.blk.froz (3 + n)
  have HK : Hid (RefS (w1.setCell ⟨K, 3 + n, none⟩ (.int .i64 (IntKind.i64.wrap (x + 1)))) K v1 fl1 { s' with N := incN s'.N n }) := K1
  have HC : Hid (Ch K w w1) := C1
  have hlt := S1.blk.lt
  have d1 : decide ((0 : Int) ≤ (n : Int)) = true := by simp
  have d2 : decide ((n : Int) < 18) = true := by simp; omega
  have d3 : (n : Int) < 18 := by omega
  clear HT S1 C1 K1 hx
  go_wp2_with fail
  go_region_with (fail)
  all_goals (go_wp2_with fail)
  all_goals go_ret2
  all_goals exact ⟨rfl, v1, fl1, HK.out.drewN 1, (HC.out.set _ _).drewN 1⟩

theorem row_same {e : TypeId} {w w' : World} {B sz n : Nat} {v : Value} {xs : List Value} (h : w.ownsRow B e sz v n xs) (hb : ∀ k, v.ownBlock = some k → w'.heap[k]? = w.heap[k]?) : w'.ownsRow B e sz v n xs := by
  refine ⟨h.1, ?_⟩
  rcases h.2 with hn | ⟨g, cap, cur, hv, hB, hg, rest⟩
  · exact Or.inl hn
  · exact Or.inr ⟨g, cap, cur, hv, hB, (hb g (by rw [hv]; rfl)).trans hg, rest⟩
theorem Blk.same {w w' : World} {b : Nat} {cs : List Value} (h : Blk w b cs) (hs : w.heap.size ≤ w'.heap.size) (hb : w'.heap[b]? = w.heap[b]?) : Blk w' b cs :=
  ⟨Nat.lt_of_lt_of_le h.lt hs, fun o ho => (World.cell?_of_block (w := w) (a := ⟨b, o, none⟩) hb).trans (h.all o ho), fun o => (World.frozen?_of_block (w := w) (a := ⟨b, o, none⟩) hb).trans (h.froz o)⟩
/-- The document's store over a call of ours. -/
theorem RefS.chs {w w' : World} {B S R K : Nat} {v v' u : Value} {fl : Int} {rs : Rs} {s s' : Sto} (h : RefS w K u fl s') (hs : StoV w B S R v rs s) (k : Chs B S R v v' w w') (hS : S < K) (hR : R < K) : RefS w' K u fl s' := by
  have hov : ∀ g cur e, w.heap[g]? = some (.cells cur e (0, 0)) → e ≠ 90 → some g ≠ v.ownBlock := fun g cur e hg he hv => by
    obtain ⟨cur', hc'⟩ := own_type hs.rng.own hv.symm
    rw [hg] at hc'
    injection hc' with hc'
    injection hc' with _ h2 _
    exact he h2
  obtain ⟨cur, hc⟩ := h.typ
  have hK : w'.heap[K]? = w.heap[K]? := k.block K h.blk.lt (by omega) (by omega) (hov K cur _ hc (by decide))
  obtain ⟨Z, h1, h2⟩ := h.row
  refine ⟨h.blk.same k.below.size hK, ⟨cur, hK.trans hc⟩, ⟨Z, h1.same fun g hg => ?_, h2.mono fun u E o => ?_⟩, h.flo⟩
  · obtain ⟨q1, q2, cur, hc⟩ := h1.blk g hg
    exact k.block g q2 (by omega) (by omega) (hov g cur _ hc (by decide))
  · refine own_chs (by decide) o hs ⟨fun e => ?_, fun e => ?_⟩ k
    · have := (OwnE.lt o _ e.symm).1; omega
    · have := (OwnE.lt o _ e.symm).1; omega
/-- Ours over a call of the document's. -/
theorem StoV.chK {w w' : World} {B S R K : Nat} {v : Value} {rs : Rs} {s : Sto} (h : StoV w B S R v rs s) (ht : ∃ cur, w.heap[K]? = some (.cells cur 41 (0, 0))) (hS : S ≠ K) (hR : R ≠ K) (k : Ch K w w') : StoV w' B S R v rs s := by
  obtain ⟨cur, hc⟩ := ht
  have hrow : ∀ {e : TypeId} {B sz n : Nat} {v : Value} {xs : List Value}, e ≠ 41 → w.ownsRow B e sz v n xs → w'.ownsRow B e sz v n xs := fun he ho => by
    refine row_same ho fun g hg => ?_
    obtain ⟨cur', hc'⟩ := own_type ho hg
    refine k.block (fun e' => ?_) (Array.getElem?_eq_some_iff.1 hc').1
    subst e'
    rw [hc] at hc'
    injection hc' with hc'
    injection hc' with _ h2 _
    exact he h2.symm
  refine ⟨h.blk.same k.size (k.block hS h.blk.lt), ⟨h.rng.blk.same k.size (k.block hR h.rng.blk.lt), hrow (by decide) h.rng.own, h.rng.ok, h.rng.ones, h.rng.ne, h.rng.le⟩, h.most, h.kept.mono ?_, h.ne, h.nev, h.le, h.num⟩
  rintro p s ⟨ao, n, c, rfl, h1, h2⟩
  exact ⟨ao, n, c, rfl, hrow (by decide) h1, h2⟩
/-- An operation that yields in the world at hand, taken first; its slot apart. -/
theorem takeH_to {P : Program} {md : Region.Mode} {ops : Array Oper} {Q : Exit → Act → World → Prop} {S : World → Prop} {i : Nat} {oi : Oper} {d : Option Nat} {v : Value} {fuel : Nat} {listed : Array Bool} {a : Act} {w : World} (hi : ops[i]? = some oi) (hd : oi.dst = d)
    (hs : Region.noSelect ops = true) (hf : Region.free md ops listed i = true) (hr : (Region.ready md ops listed).contains i = true)
    (hQ : ∀ c a w, Q (.panic c) (a.put d v) w → Q (.panic c) a w) (hy : YieldsIf P ops S oi v a) (hS : S w)
    (h : wpAnyH P md ops Q S fuel (listed.setIfInBounds i true) (a.put d v) w) : wpAnyH P md ops Q S (fuel + 1) listed a w := by
  subst hd; exact wpAnyH_take hi hs hf hr hQ hy hS h
/-- What is kept, cell by cell. -/
theorem tel_cells {w : World} {B n cap : Nat} {ao : Option Addr} {Z : List Tri} {L : List Sn} (hz : RdT w B (.slice ao n cap) Z) (ht : TelS w B Z L) : ∀ q (hq : q < Z.length), ∃ b o, ao = some ⟨b, o, none⟩ ∧ b < w.heap.size ∧ w.cell? ⟨b, o + q * 3, none⟩ = some (.int .i64 (atS L q).t) ∧ w.cell? ⟨b, o + q * 3 + 1, none⟩ = some (.int .i64 (atS L q).m) ∧ w.cell? ⟨b, o + q * 3 + 2, none⟩ = some Z[q].2.2 ∧ OwnE w B Z[q].2.2 (atS L q).E := by
  intro q hq
  obtain ⟨ao', cap', e, h1, h2, w3, w4, w5⟩ := hz
  injection e with e1 e2 e3
  subst e1; subst e3
  obtain ⟨t1, t2, t3⟩ := ht.at q hq
  cases hao : ao with
  | none => have := w3 hao; omega
  | some a =>
    obtain ⟨b, o, rfl, hB, cur, hcur⟩ := w4 a hao
    obtain ⟨d0, d1, d2⟩ := snC_at hq
    rw [t1] at d0
    rw [t2] at d1
    refine ⟨b, o, rfl, (Array.getElem?_eq_some_iff.1 hcur).1, w5 b o hao _ _ d0, ?_, ?_, t3⟩
    · have := w5 b o hao _ _ d1; rw [← Nat.add_assoc] at this; exact this
    · have := w5 b o hao _ _ d2; rw [← Nat.add_assoc] at this; exact this
theorem get_kept {L : List Sn} (hr : RiseT L) {i : Nat} (hi : i < L.length) : isS L (atS L i).t = true ∧ getS L (atS L i).t = atS L i := by
  have his : isS L (atS L i).t = true := (is_iff hr _).2 ⟨_, atS_mem hi, rfl⟩
  refine ⟨his, ?_⟩
  unfold getS
  rw [if_pos his]
  unfold isS at his
  simp at his
  have hu := untS_le L (atS L i).t
  have : i = untS L (atS L i).t - 1 := rise_one hr hi (by omega) (by rw [his.2])
  rw [← this]
end Go.Proofs.YtlpdhglibgnkoaaGreat
