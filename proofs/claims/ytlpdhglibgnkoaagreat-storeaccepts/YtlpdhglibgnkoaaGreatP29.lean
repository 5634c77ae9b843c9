/-
  Texts St2, St3, St4, St5, St6 in one.
-/
import Derived.Deep.RegionHeld3
import Derived.Test.YtlpdhglibgnkoaaGreatP28
namespace Go.Proofs.YtlpdhglibgnkoaaGreat
open Go.RowKit
set_option linter.unusedVariables false

theorem eb_got (l : List Int) : Eb (got l).2.2 := by
  unfold got Eb
  repeat' split
  all_goals simp
theorem eb_uintE (m : Int) (l : List Int) : Eb (uintE m l) := by
  have := eb_got l
  unfold Eb at *
  unfold uintE
  repeat' split
  all_goals omega
theorem eb_fail {s : St} {x : Int} (h : Eb s.e) (hx : Eb x) : Eb (failS s x).e := by
  unfold failS; split
  · exact hx
  · exact h
theorem eb_byte {s : St} (h : Eb s.e) : Eb (byteS s).e := by
  unfold byteS
  repeat' split
  all_goals first | exact h | (show Eb _; simp only [Eb]; omega)
theorem eb_uint {s : St} (m : Int) (h : Eb s.e) : Eb (uintS m s).e := by
  unfold uintS
  repeat' split
  · show Eb 0; unfold Eb; omega
  · exact eb_uintE m s.l
  · exact h
theorem eb_int {s : St} (h : Eb s.e) : Eb (intS s).e := eb_uint _ h
theorem eb_vec {s : St} (h : Eb s.e) : Eb (vecS s).e := eb_int (eb_int (eb_int h))
theorem eb_oth {s : St} (x : Int) (h : Eb s.e) : Eb (othS x s).e := by
  unfold othS; split
  · exact eb_fail h (by unfold Eb; omega)
  · exact h
theorem eb_step {s : St} (b : Bool) (h : Eb s.e) : Eb (stepS b s).e := by
  unfold stepS; split
  · exact eb_oth _ (eb_int h)
  · exact h
theorem eb_dif (m : Int) {s : St} (h : Eb s.e) : ∀ k, Eb (difS m s k).e
  | 0 => h
  | k + 1 => eb_step _ (eb_dif m h k)
theorem eb_ang {s : St} (b : Bool) (h : Eb s.e) : Eb (angS b s).e := by
  unfold angS; split
  · exact eb_oth _ (eb_uint _ h)
  · exact h
theorem eb_msk {s : St} (h : Eb s.e) : Eb (mskS s).e := by
  unfold mskS; split
  · exact eb_fail (eb_byte h) (by unfold Eb; omega)
  · exact eb_byte h
theorem eb_upd {s : St} (h : Eb s.e) : Eb (updS s).e := eb_ang _ (eb_dif _ (eb_msk h) 6)
theorem eb_who {s : St} (h : Eb s.e) : Eb (whoS s).e := eb_uint _ (eb_vec (eb_vec h))
theorem eb_hd {s : St} (last : Int) (h : Eb s.e) : Eb (hdS s last).e := eb_byte (eb_uint _ h)
theorem eb_tak {s : St} (last : Int) (h : Eb s.e) : Eb (takS s last).e := by
  unfold takS
  split
  · exact eb_fail h (by unfold Eb; omega)
  split
  · exact eb_fail (eb_hd _ h) (by unfold Eb; omega)
  split
  · exact eb_upd (eb_hd _ h)
  split
  · exact eb_hd _ h
  · exact eb_who (eb_hd _ h)
theorem eb_red {s : St} (last : Int) (h : Eb s.e) : Eb (redS s last).e := by
  unfold redS; split
  · exact eb_tak _ h
  · exact h
theorem eb_row {s : St} (h : Eb s.e) : ∀ k, Eb (rowS s k).1.e
  | 0 => h
  | k + 1 => by
    by_cases h0 : (rowS s k).1.e = 0
    · rw [rowS_one h0]; exact eb_red _ (eb_row h k)
    · rw [rowS_no h0]; exact eb_row h k
theorem eb_same {s : St} (c : Int) (h : Eb s.e) : Eb (sameS c s).e := by
  unfold sameS; split
  · exact eb_byte h
  · exact eb_fail (eb_byte h) (by unfold Eb; omega)
theorem eb_tim {s : St} (h : Eb s.e) : Eb (timS s).e := by
  unfold timS; split
  · exact eb_int h
  · exact eb_fail (eb_int h) (by unfold Eb; omega)
theorem eb_done {s : St} (h : Eb s.e) : Eb (doneA s) := by
  unfold doneA
  repeat' split
  all_goals first | exact h | (unfold Eb; omega)
theorem eb_op (l : List Int) : Eb (opE l) :=
  eb_done (eb_row (eb_uint _ (eb_uint _ (eb_tim (eb_uint _ (eb_same _ (eb_same _ (show Eb 0 by unfold Eb; omega))))))) _)
theorem eb_rg (l : List Int) : Eb (rgE l) := by
  unfold rgE
  split
  · unfold Eb; omega
  split
  · exact eb_op _
  · unfold Eb; omega
theorem eb_wr (r : Rc) (last : Int) : Eb (wrE r last) := by
  have := chk_bd r
  unfold Eb wrE
  repeat' split
  all_goals omega
theorem eb_fir : ∀ (L : List Rc) (last : Int), Eb (firE last L)
  | [], _ => by show Eb 0; unfold Eb; omega
  | r :: rs, last => by
    show Eb (if wrE r last = 0 then firE r.i rs else wrE r last)
    split
    · exact eb_fir rs r.i
    · exact eb_wr r last
theorem eb_hed (g : Gm) (n : Nat) : Eb (hedE g n) := by
  unfold Eb hedE
  repeat' split
  all_goals omega
theorem eb_gm (g : Gm) (A : Nat → Rc) (n : Nat) : Eb (gmE g A n) := by
  unfold gmE; split
  · exact eb_fir _ _
  · exact eb_hed _ _
theorem eb_ids : ∀ (L : List En) (last : Int), Eb (idsE last L)
  | [], _ => by show Eb 0; unfold Eb; omega
  | e :: L, last => by
    show Eb (if e.i < 0 ∨ 65535 < e.i then 3 else if e.i ≤ last then 10 else idsE e.i L)
    split
    · unfold Eb; omega
    split
    · unfold Eb; omega
    · exact eb_ids L e.i
theorem eb_sn (t m : Int) (L : List En) : Eb (snE t m L) := by
  unfold snE
  split
  · unfold Eb; omega
  split
  · unfold Eb; omega
  · exact eb_ids _ _
theorem eb_apl (t m : Int) (L : List En) (g : Gm) (A : Nat → Rc) (n : Nat) : Eb (aplE t m L g A n) := by
  unfold aplE
  split
  · split
    · exact eb_sn _ _ _
    split
    · unfold Eb; omega
    split
    · unfold Eb; omega
    · split <;> (unfold Eb; omega)
  · exact eb_gm _ _ _
theorem eb_acc (s : Sto) (l : List Int) : Eb (tkE s l) := eb_tk (eb_rg l) (eb_apl _ _ _ _ _ _)
end Go.Proofs.YtlpdhglibgnkoaaGreat

namespace Go.Proofs.YtlpdhglibgnkoaaGreat
open Go.RowKit
set_option linter.unusedVariables false
set_option maxRecDepth 8000

/-- What a store's calls leave alone: all blocks but its own, its ring's, and that of the ring's row. -/
structure Chs (B S R : Nat) (v v' : Value) (w w' : World) : Prop where
  below : Below B w w'
  block : ∀ k, k < w.heap.size → k ≠ S → k ≠ R → some k ≠ v.ownBlock → w'.heap[k]? = w.heap[k]?
  own : v'.ownBlock = v.ownBlock ∨ ∃ g, v'.ownBlock = some g ∧ w.heap.size ≤ g
theorem Chs.of_chg {B S R : Nat} {v v' : Value} {w w' : World} (h : Chg B R v v' w w') : Chs B S R v v' w w' :=
  ⟨h.below, fun k hk _ hR hv => h.block k hk hR hv, h.own⟩
theorem Chs.of_below {B S R : Nat} {v : Value} {w w' : World} (h : Below w.heap.size w w') (hB : B ≤ w.heap.size) : Chs B S R v v w w' :=
  ⟨h.mono hB, fun k hk _ _ _ => h.block k hk, Or.inl rfl⟩
theorem Chs.set {B S R o : Nat} {v u : Value} {w : World} (hB : B ≤ S) : Chs B S R v v w (w.setCell ⟨S, o, none⟩ u) :=
  ⟨(Below.refl B w).setCell hB u, fun k hk hne _ _ => heap_setCell_other w ⟨S, o, none⟩ k u (fun e => hne e), Or.inl rfl⟩
theorem Chs.trans {B S R : Nat} {v v1 v2 : Value} {w w1 w2 : World} (h : Chs B S R v v1 w w1) (k : Chs B S R v1 v2 w1 w2) : Chs B S R v v2 w w2 := by
  refine ⟨h.below.trans k.below, fun j hj hS hR hv => ?_, ?_⟩
  · refine (k.block j (Nat.lt_of_lt_of_le hj h.below.size) hS hR ?_).trans (h.block j hj hS hR hv)
    rcases h.own with e | ⟨g, e, hg⟩
    · rw [e]; exact hv
    · rw [e]; intro h'; injection h' with h'; omega
  · rcases k.own with e | ⟨g, e, hg⟩
    · rw [e]; exact h.own
    · exact Or.inr ⟨g, e, Nat.le_trans h.below.size hg⟩
theorem Chs.drewN {B S R : Nat} {v v' : Value} {w w' : World} (h : Chs B S R v v' w w') (n : Nat) : Chs B S R v v' w (w'.drewN n) := ⟨below_drewN h.below n, h.block, h.own⟩
theorem Chs.mono {B B' S R : Nat} {v v' : Value} {w w' : World} (h : Chs B S R v v' w w') (hB : B' ≤ B) : Chs B' S R v v' w w' := ⟨h.below.mono hB, h.block, h.own⟩
/-- A block that isn't the store's. -/
theorem Chs.off {B S R : Nat} {v v' : Value} {w w' : World} (h : Chs B S R v v' w w') {b : Nat} (hb : b < w.heap.size) (hv : some b ≠ v.ownBlock) : some b ≠ v'.ownBlock := by
  rcases h.own with e | ⟨g, e, hg⟩
  · rw [e]; exact hv
  · rw [e]; intro h'; injection h' with h'; omega
theorem Blk.chs {B S R : Nat} {v v' : Value} {w w' : World} {b : Nat} {cs : List Value} (hb : Blk w b cs) (h : Chs B S R v v' w w') (hS : b ≠ S) (hR : b ≠ R) (hv : some b ≠ v.ownBlock) : Blk w' b cs := by
  have e := h.block b hb.lt hS hR hv
  exact ⟨Nat.lt_of_lt_of_le hb.lt h.below.size, fun o ho => (World.cell?_of_block (w := w) (a := ⟨b, o, none⟩) e).trans (hb.all o ho), fun o => (World.frozen?_of_block (w := w) (a := ⟨b, o, none⟩) e).trans (hb.froz o)⟩
theorem OwnE.chs {B C S R : Nat} {v v' u : Value} {L : List En} {w w' : World} (hu : OwnE w C u L) (h : Chs B S R v v' w w') (ha : ∀ g, u.ownBlock = some g → g ≠ S ∧ g ≠ R ∧ some g ≠ v.ownBlock) : OwnE w' C u L ∧ ∀ g, u.ownBlock = some g → g ≠ S ∧ g ≠ R ∧ some g ≠ v'.ownBlock := by
  refine ⟨⟨hu.1, ?_⟩, fun g hg => ?_⟩
  · rcases hu.2 with hn | ⟨g, cap, cur, hv', hB, hg, rest⟩
    · exact Or.inl hn
    · have hgl : g < w.heap.size := (Array.getElem?_eq_some_iff.1 hg).1
      subst hv'
      obtain ⟨a1, a2, a3⟩ := ha g rfl
      exact Or.inr ⟨g, cap, cur, rfl, hB, (h.block g hgl a1 a2 a3).trans hg, rest⟩
  · obtain ⟨a1, a2, a3⟩ := ha g hg
    exact ⟨a1, a2, h.off (hu.lt g hg).2 a3⟩
/-- A pair of the ring is the snapshot. -/
def Kp (w : World) (B S R : Nat) (v : Value) (p : Pr) (s : Sn) : Prop :=
  ∃ ao n c, p = (s.t, snV s.t s.m (.slice ao n c)) ∧ OwnE w B (.slice ao n c) s.E ∧ ∀ g, (Value.slice ao n c).ownBlock = some g → g ≠ S ∧ g ≠ R ∧ some g ≠ v.ownBlock
theorem Kp.key {w : World} {B S R : Nat} {v : Value} : ∀ p s, Kp w B S R v p s → p.1 = s.t := by
  rintro p s ⟨ao, n, c, rfl, _⟩; rfl
theorem Kp.chs {B S R : Nat} {v v' : Value} {w w' : World} (h : Chs B S R v v' w w') : ∀ p s, Kp w B S R v p s → Kp w' B S R v' p s := by
  rintro p s ⟨ao, n, c, rfl, h1, h2⟩
  obtain ⟨h3, h4⟩ := h1.chs h h2
  exact ⟨ao, n, c, rfl, h3, h4⟩
/-- A store in memory: its block, its ring's, the ring's row, the ring, the store. -/
structure StoV (w : World) (B S R : Nat) (v : Value) (rs : Rs) (s : Sto) : Prop where
  blk : Blk w S (.int .i64 (s.M : Nat) :: .pointer (some ⟨R, 0, none⟩) :: s.N.map fun x => .int .i64 x)
  rng : RngV 90 w B R v rs
  most : rs.M = s.M
  kept : Fa2 (Kp w B S R v) rs.L s.L
  ne : S ≠ R
  nev : some S ≠ v.ownBlock
  le : B ≤ S
  num : s.N.length = 18
theorem StoV.below {w w' : World} {B S R : Nat} {v : Value} {rs : Rs} {s : Sto} (h : StoV w B S R v rs s) (hb : Below w.heap.size w w') : StoV w' B S R v rs s :=
  ⟨h.blk.low hb h.blk.lt, h.rng.below hb, h.most, h.kept.mono (Kp.chs (Chs.of_below hb (Nat.le_trans h.le (Nat.le_of_lt h.blk.lt)))), h.ne, h.nev, h.le, h.num⟩
theorem StoV.drewN {w : World} {B S R : Nat} {v : Value} {rs : Rs} {s : Sto} (h : StoV w B S R v rs s) (n : Nat) : StoV (w.drewN n) B S R v rs s :=
  ⟨⟨h.blk.lt, h.blk.all, h.blk.froz⟩, h.rng.drewN n, h.most, h.kept, h.ne, h.nev, h.le, h.num⟩
/-- A count goes up. -/
theorem StoV.count {w : World} {B S R : Nat} {v : Value} {rs : Rs} {s : Sto} (h : StoV w B S R v rs s) (e : Nat) (he : e < 18) :
    w.cell? ⟨S, 2 + e, none⟩ = some (.int .i64 (s.N.getD e 0)) ∧ StoV (w.setCell ⟨S, 2 + e, none⟩ (.int .i64 (IntKind.i64.wrap (s.N.getD e 0 + 1)))) B S R v rs { s with N := incN s.N e } := by
  have hn := h.num
  have hg : s.N[e]? = some (s.N.getD e 0) := by
    rw [List.getD, List.getElem?_eq_getElem (by omega)]; rfl
  refine ⟨h.blk.cell (2 + e) _ (by rw [show 2 + e = e + 1 + 1 by omega]; simp only [List.getElem?_cons_succ, List.getElem?_map, hg]; rfl), ?_⟩
  have c := Chs.set (R := R) (v := v) (w := w) (o := 2 + e) (u := .int .i64 (IntKind.i64.wrap (s.N.getD e 0 + 1))) h.le
  refine ⟨?_, ?_, h.most, h.kept.mono (Kp.chs c), h.ne, h.nev, h.le, by simp [incN, hn]⟩
  · have := h.blk.set (2 + e) (.int .i64 (IntKind.i64.wrap (s.N.getD e 0 + 1))) (by simp; omega)
    have e1 : (Value.int .i64 (s.M : Nat) :: .pointer (some ⟨R, 0, none⟩) :: s.N.map fun x => Value.int .i64 x).set (2 + e) (.int .i64 (IntKind.i64.wrap (s.N.getD e 0 + 1))) = .int .i64 (s.M : Nat) :: .pointer (some ⟨R, 0, none⟩) :: (incN s.N e).map fun x => Value.int .i64 x := by
      rw [show 2 + e = e + 1 + 1 by omega]
      simp only [List.set_cons_succ, incN, Int.toNat_natCast, List.map_set]
    rw [e1] at this
    exact this
  · have hb : Blk (w.setCell ⟨S, 2 + e, none⟩ (.int .i64 (IntKind.i64.wrap (s.N.getD e 0 + 1)))) R _ := h.rng.blk.grwn (grown_set w S (2 + e) _) (fun e => h.ne (by injection e with e; exact e.symm))
    exact ⟨hb, h.rng.own.kept (grown_set w S (2 + e) _) (by
      cases hq : v.ownBlock with
      | none => exact Or.inl rfl
      | some q => exact Or.inr (fun e => h.nev (by rw [hq]; exact e.symm))), h.rng.ok, h.rng.ones, h.rng.ne, h.rng.le⟩
end Go.Proofs.YtlpdhglibgnkoaaGreat

namespace Go.Proofs.YtlpdhglibgnkoaaGreat
open Go.RowKit
set_option linter.unusedVariables false
set_option maxRecDepth 20000

set_option maxHeartbeats 400000 in
theorem cloneE_any (w : World) (v : Value) (n : Nat) (A : Nat → En) (h : RdE w v n A) (hlen : n ≤ 1000000) :
    Calls Tryz.prog 40 #[v] w fun e w' => ∃ u, e = .returned u ∧ OwnE w' w.heap.size u (preE A n) ∧ Below w.heap.size w w' := by
  have H : Hid (RdE w v n A) := h
  have q22 : ∀ (w : World) (a : Option Addr) (n c n' c' : Nat), (binOp .eql 43 (.slice a n c) (.slice none n' c')).run Tryz.prog w = .ok (.bool a.isNone) w := fun w a n c n' c' => Lib.run_eql_slice_nil w _ _ a n c n' c' Tryz.underlying43
  obtain ⟨ao, cap, rfl, hc, hm, h3⟩ := h
  rcases ao with _ | a
  · obtain rfl : n = 0 := by
      rcases h3 with h3 | ⟨b, o, e, _⟩
      · exact h3
      · cases e
    go_enter Tryz.func40, Tryz.ntmps40
    go_wp2_with fail
    go_ret
    exact ⟨_, rfl, OwnE.nil _ _, Below.refl _ _⟩
  · have ho := ownE_new w w.heap.size (Nat.le_refl _)
    have bb : Below w.heap.size w (w.alloc (.cells #[] 69)) := (Below.refl _ w).alloc (Nat.le_refl _) _
    have hr := H.out.below bb
    have HO : Hid (OwnE (w.alloc (.cells #[] 69)) w.heap.size (.slice (some ⟨w.heap.size, 0, none⟩) 0 0) []) := ho
    have HR : Hid (∀ j u, (ents (preE A n))[j]? = some u → (w.alloc (.cells #[] 69)).cell? (a.add j) = some u) := fun j u hu => by
      rcases h3 with h3 | ⟨b, o, e, hcell⟩
      · subst h3; simp [preE, ents] at hu
      · injection e with e
        subst e
        rw [Addr.add_lit]
        obtain ⟨_, _, e2, _, _, h4⟩ := hr
        injection e2 with e2 _ _
        rcases h4 with h4 | ⟨b', o', e3, h4⟩
        · subst h4; simp [preE, ents] at hu
        · rw [e3] at e2
          injection e2 with e2
          injection e2 with e2 e4 _
          subst e2 e4
          exact ents_rd h4 j u hu
    have HL : Hid ((preE A n).length = n) := preE_len A n
    clear ho hr h3
    go_enter Tryz.func40, Tryz.ntmps40
    go_wp2_with (at_builtin; refine wpList_plain rfl fun K hK => appE_op _ _ rfl w.heap.size _ [] rfl (by exact HO.out) a n cap (preE A n) rfl HL.out (by exact HR.out) (by rw [HL.out]; simp; omega) (by simp) (fun u w1 own1 g1 => hK _ _ ?_))
    go_ret
    exact ⟨_, rfl, own1, bb.trans g1.below⟩
end Go.Proofs.YtlpdhglibgnkoaaGreat

namespace Go.Proofs.YtlpdhglibgnkoaaGreat
open Go.RowKit
set_option linter.unusedVariables false
set_option maxRecDepth 20000

/-! the blocks' facts -/
theorem StoV.c0 {w : World} {B S R : Nat} {v : Value} {rs : Rs} {s : Sto} (h : StoV w B S R v rs s) : w.cell? ⟨S, 0, none⟩ = some (.int .i64 (s.M : Nat)) := h.blk.cell 0 _ rfl
theorem StoV.c1 {w : World} {B S R : Nat} {v : Value} {rs : Rs} {s : Sto} (h : StoV w B S R v rs s) : w.cell? ⟨S, 1, none⟩ = some (.pointer (some ⟨R, 0, none⟩)) := h.blk.cell 1 _ rfl
theorem StoV.cn {w : World} {B S R : Nat} {v : Value} {rs : Rs} {s : Sto} (h : StoV w B S R v rs s) (e : Nat) (he : e < 18) : w.cell? ⟨S, 2 + e, none⟩ = some (.int .i64 (s.N.getD e 0)) := (h.count e he).1
theorem StoV.len {w : World} {B S R : Nat} {v : Value} {rs : Rs} {s : Sto} (h : StoV w B S R v rs s) : rs.L.length = s.L.length := h.kept.len
theorem StoV.isAt {w : World} {B S R : Nat} {v : Value} {rs : Rs} {s : Sto} (h : StoV w B S R v rs s) (k : Int) : isAt rs.L k = isS s.L k := h.kept.isAt Kp.key k
theorem StoV.untl {w : World} {B S R : Nat} {v : Value} {rs : Rs} {s : Sto} (h : StoV w B S R v rs s) (k : Int) : untl rs.L k = untS s.L k := h.kept.untl Kp.key k
/-- The thing at a place. -/
theorem StoV.at {w : World} {B S R : Nat} {v : Value} {rs : Rs} {s : Sto} (h : StoV w B S R v rs s) {i : Nat} (hi : i < s.L.length) :
    ∃ ao n c, keyAt rs.L i = (atS s.L i).t ∧ thing rs.L i = snV (atS s.L i).t (atS s.L i).m (.slice ao n c) ∧ RdE w (.slice ao n c) (atS s.L i).E.length (atE (atS s.L i).E) := by
  obtain ⟨ao, n, c, e, o, _⟩ := h.kept.at i (by rw [h.len]; exact hi)
  injection e with e1 e2
  exact ⟨ao, n, c, e1, e2, o.atE⟩
theorem StoV.get {w : World} {B S R : Nat} {v : Value} {rs : Rs} {s : Sto} (h : StoV w B S R v rs s) (k : Int) :
    ∃ ao n c, getX rs.L k (.agg #[.int .i64 0, .int .i64 0, .slice none 0 0]) = snV (getS s.L k).t (getS s.L k).m (.slice ao n c) ∧ RdE w (.slice ao n c) (getS s.L k).E.length (atE (getS s.L k).E) := by
  unfold getX getS
  rw [h.isAt]
  cases hq : isS s.L k with
  | false => exact ⟨none, 0, 0, rfl, none, 0, rfl, Nat.le_refl _, by omega, Or.inl rfl⟩
  | true =>
    have hu : 0 < untS s.L k := by unfold isS at hq; simp at hq; exact hq.1
    have hl := untS_le s.L k
    obtain ⟨ao, n, c, _, e2, r⟩ := h.at (i := untS s.L k - 1) (by omega)
    refine ⟨ao, n, c, ?_, r⟩
    rw [if_pos rfl, if_pos rfl, h.untl]; exact e2

/-! New -/
theorem st_new (w : World) (m : Nat) (h1 : 1 ≤ m) (h2 : m ≤ 64) : Calls Tryz.prog 4 #[.int .i64 (m : Nat)] w fun e w' => e = .returned (.tuple #[.pointer (some ⟨w.heap.size + 1, 0, none⟩), .int .i64 0]) ∧ StoV w' w.heap.size (w.heap.size + 1) w.heap.size (.slice none 0 0) (emptyR m) (emptyS m) ∧ Below w.heap.size w w' := by
  go_enter Tryz.func4, Tryz.ntmps4
  go_wp2_with fail
  refine (new_anyP w m h1 h2).mono ?_; rintro e w1 ⟨rfl, r1, b1, z1⟩
  have HR : Hid (RngV 90 w1 w.heap.size w.heap.size (.slice none 0 0) (emptyR m) ∧ Below w.heap.size w w1 ∧ w1.heap.size = w.heap.size + 1) := ⟨r1, b1, z1⟩
  clear r1 b1 z1
  go_wp2_with fail
  go_ret2
  obtain ⟨r1, b1, z1⟩ := HR.out
  obtain ⟨W1, hW1⟩ : ∃ W1, w1.alloc (.cells #[.int .i64 (m : Nat), .pointer (some ⟨w.heap.size, 0, none⟩), .int .i64 0, .int .i64 0, .int .i64 0, .int .i64 0, .int .i64 0, .int .i64 0, .int .i64 0, .int .i64 0, .int .i64 0, .int .i64 0, .int .i64 0, .int .i64 0, .int .i64 0, .int .i64 0, .int .i64 0, .int .i64 0, .int .i64 0, .int .i64 0] 56) = W1 := ⟨_, rfl⟩
  obtain ⟨x1, x2, x3, _⟩ := boxA hW1
  rw [hW1, z1]
  rw [z1] at x1
  exact ⟨rfl, ⟨x1, r1.below x2, rfl, trivial, by omega, by simp [Value.ownBlock], by omega, rfl⟩, b1.trans (x2.mono (by omega))⟩

/-! Len, Taken, Refused -/
theorem st_len (w : World) (B S R : Nat) (v : Value) (rs : Rs) (s : Sto) (h : StoV w B S R v rs s) :
    Calls Tryz.prog 11 #[.pointer (some ⟨S, 0, none⟩)] w fun e w' => e = .returned (.int .i64 (s.L.length : Nat)) ∧ w' = w := by
  have HS : Hid (StoV w B S R v rs s) := h
  have c1 := h.c1
  clear h
  go_enter Tryz.func11, Tryz.ntmps11
  go_wp2_with fail
  refine (len_anyP w B R v rs HS.out.rng).mono ?_; rintro e w1 ⟨rfl, rfl⟩
  rw [HS.out.len]
  go_wp2_with fail
  go_ret
  exact ⟨rfl, rfl⟩
theorem st_taken (w : World) (B S R : Nat) (v : Value) (rs : Rs) (s : Sto) (h : StoV w B S R v rs s) :
    Calls Tryz.prog 12 #[.pointer (some ⟨S, 0, none⟩)] w fun e w' => e = .returned (.int .i64 (s.N.getD 0 0)) ∧ w' = w := by
  have c2 := h.cn 0 (by omega)
  simp only [Nat.add_zero] at c2
  obtain ⟨x, hx⟩ : ∃ x, s.N.getD 0 0 = x := ⟨_, rfl⟩
  rw [hx] at c2 ⊢
  clear h hx
  go_enter Tryz.func12, Tryz.ntmps12
  go_wp2_with fail
  go_ret
  exact ⟨rfl, rfl⟩
theorem st_refused_out (w : World) (S : Nat) (e : Int) (he : e ≤ 0 ∨ 18 ≤ e) : Calls Tryz.prog 13 #[.pointer (some ⟨S, 0, none⟩), .int .i64 e] w fun r w' => r = .returned (.int .i64 0) ∧ w' = w := by
  by_cases h : e ≤ 0
  · have d0 : decide (e ≤ 0) = true := by simpa using h
    go_enter Tryz.func13, Tryz.ntmps13
    go_wp2_with fail
    go_ret
    exact ⟨rfl, rfl⟩
  · have h' : (18 : Int) ≤ e := by omega
    have d0 : decide (e ≤ 0) = false := by simpa using h
    have d1 : decide ((18 : Int) ≤ e) = true := by simpa using h'
    go_enter Tryz.func13, Tryz.ntmps13
    go_wp2_with fail
    go_ret
    exact ⟨rfl, rfl⟩
theorem st_refused (w : World) (B S R : Nat) (v : Value) (rs : Rs) (s : Sto) (h : StoV w B S R v rs s) (e : Nat) (h0 : 0 < e) (h1 : e < 18) :
    Calls Tryz.prog 13 #[.pointer (some ⟨S, 0, none⟩), .int .i64 (e : Nat)] w fun r w' => r = .returned (.int .i64 (s.N.getD e 0)) ∧ w' = w := by
  have c2 := h.cn e h1
  obtain ⟨x, hx⟩ : ∃ x, s.N.getD e 0 = x := ⟨_, rfl⟩
  rw [hx] at c2 ⊢
  clear h hx
  have d0 : decide ((e : Int) ≤ 0) = false := by simp; omega
  have d1 : decide ((18 : Int) ≤ (e : Int)) = false := by simp; omega
  go_enter Tryz.func13, Tryz.ntmps13
  go_wp2_with fail
  go_ret
  exact ⟨rfl, rfl⟩
end Go.Proofs.YtlpdhglibgnkoaaGreat

namespace Go.Proofs.YtlpdhglibgnkoaaGreat
open Go.RowKit
set_option linter.unusedVariables false
set_option maxRecDepth 20000

/-- own: the entities are cloned. -/
theorem st_own (w : World) (t m : Int) (ao : Option Addr) (n c k : Nat) (A : Nat → En) (h : RdE w (.slice ao n c) k A) (hk : k ≤ 1000000) :
    Calls Tryz.prog 23 #[snV t m (.slice ao n c)] w fun e w' => ∃ u, e = .returned (snV t m u) ∧ OwnE w' w.heap.size u (preE A k) ∧ Below w.heap.size w w' := by
  have HR : Hid (RdE w (.slice ao n c) k A) := h
  clear h
  go_enter Tryz.func23, Tryz.ntmps23
  go_wp2_with fail
  generalize hW : (w.alloc (.cells #[.int .i64 t, .int .i64 m, .slice ao n c] 45)).alloc (.cells #[.int .i64 0, .int .i64 0, .slice none 0 0] 45) = W
  obtain ⟨X0, Y0, b0⟩ := boxed2 hW
  obtain ⟨H, hH⟩ : ∃ H, w.heap.size = H := ⟨_, rfl⟩
  have HH : Hid (w.heap.size = H) := hH
  have R0 : Hid (RdE W (.slice ao n c) k A) := HR.out.below b0
  rw [hH] at X0 Y0 b0
  rw [hH]
  clear hW hH HR
  have hHW := Y0.lt
  refine (cloneE_any _ _ k A R0.out hk).mono ?_; rintro e w1 ⟨u, rfl, o1, b1⟩
  have X1 := X0.below b1 X0.lt
  have Y1 := Y0.below b1 Y0.lt
  have B1 : Below H w w1 := bup b0 (Nat.le_of_eq HH.out.symm) b1
  obtain ⟨au, cu, rfl⟩ := o1.form
  obtain ⟨nu, hnu⟩ : ∃ x, (preE A k).length = x := ⟨_, rfl⟩
  rw [hnu] at o1 ⊢
  have O1 : Hid (OwnE w1 (H + 1 + 1) (.slice au nu cu) (preE A k)) := OwnE.mono o1 (by omega)
  clear b0 b1 o1 X0 Y0 R0 hnu
  have x0 := X1.cell 0 _ rfl
  have x1 := X1.cell 1 _ rfl
  have x2 := X1.cell 2 _ rfl
  have f2 := X1.froz 2
  have lx := X1.lt
  go_upto_region 2 with fail
  obtain ⟨W2, hW2⟩ : ∃ W, w1.setCell ⟨H, 2, none⟩ (.slice au nu cu) = W := ⟨_, rfl⟩
  have X2 : Blk W2 H [.int .i64 t, .int .i64 m, .slice au nu cu] := by rw [← hW2]; exact X1.set 2 _ (by simp)
  have Y2 : Blk W2 (H + 1) [.int .i64 0, .int .i64 0, .slice none 0 0] := by rw [← hW2]; exact Y1.other (fun h' => by have h2 : H = H + 1 := h'; omega) _
  have O2 : Hid (OwnE W2 (H + 1 + 1) (.slice au nu cu) (preE A k)) := by rw [← hW2]; exact O1.out.set (by omega)
  have B2 : Below H w W2 := by rw [← hW2]; exact B1.setCell (by show H ≤ H; omega) _
  rw [hW2]
  clear hW2 X1 Y1 O1 B1 x0 x1 x2 f2 lx
  have x0 := X2.cell 0 _ rfl
  have x1 := X2.cell 1 _ rfl
  have x2 := X2.cell 2 _ rfl
  have lx := X2.lt
  have d0 := Y2.cell 0 _ rfl
  have f0 := Y2.froz 0
  have d1 := Y2.cell 1 _ rfl
  have f1 := Y2.froz 1
  have d2 := Y2.cell 2 _ rfl
  have f2 := Y2.froz 2
  have lr := Y2.lt
  go_wp2_with fail
  have RB := blk_three (x0 := .int .i64 t) (x1 := .int .i64 m) (x2 := .slice au nu cu) Y2
  have LB := below_three (x0 := .int .i64 t) (x1 := .int .i64 m) (x2 := .slice au nu cu) B2 (show H ≤ H + 1 by omega)
  have OB := ((O2.out.set (b := H + 1) (o := 0) (x := .int .i64 t) (by omega)).set (b := H + 1) (o := 1) (x := .int .i64 m) (by omega)).set (b := H + 1) (o := 2) (x := .slice au nu cu) (by omega)
  generalize ((W2.setCell ⟨H + 1, 0, none⟩ (.int .i64 t)).setCell ⟨H + 1, 1, none⟩ (.int .i64 m)).setCell ⟨H + 1, 2, none⟩ (.slice au nu cu) = W9 at RB LB OB ⊢
  have h0 := RB.cell 0 _ rfl
  have h1 := RB.cell 1 _ rfl
  have h2 := RB.cell 2 _ rfl
  refine bodyPost_ret (v := snV t m (.slice au nu cu)) (by simp [results, Tryz.results23, go_sem, h0, h1, h2]) rfl ⟨_, rfl, OB.mono (by rw [HH.out]; omega), by rw [HH.out]; exact LB⟩
set_option maxHeartbeats 2000000 in
/-- What is told of a store is the asker's own (At, Get: the snapshot, then the error, or whether there is one). -/
theorem st_at (w : World) (B S R : Nat) (v : Value) (rs : Rs) (s : Sto) (h : StoV w B S R v rs s) (i : Nat) (hi : i < s.L.length) (hlen : (atS s.L i).E.length ≤ 1000000) :
    Calls Tryz.prog 14 #[.pointer (some ⟨S, 0, none⟩), .int .i64 (i : Nat)] w fun e w' => ∃ u, e = .returned (.tuple #[snV (atS s.L i).t (atS s.L i).m u, .int .i64 0]) ∧ OwnE w' w.heap.size u (preE (atE (atS s.L i).E) ((atS s.L i).E).length) ∧ Below w.heap.size w w' := by
  have HS : Hid (StoV w B S R v rs s) := h
  obtain ⟨ao, n, c, ek, et, r⟩ := h.at hi
  have hi' : i < rs.L.length := by rw [h.len]; exact hi
  obtain ⟨T0, hT0⟩ : ∃ x, (atS s.L i).t = x := ⟨_, rfl⟩
  obtain ⟨M0, hM0⟩ : ∃ x, (atS s.L i).m = x := ⟨_, rfl⟩
  obtain ⟨A, hA⟩ : ∃ x, atE (atS s.L i).E = x := ⟨_, rfl⟩
  obtain ⟨K, hKK⟩ : ∃ x, (atS s.L i).E.length = x := ⟨_, rfl⟩
  rw [hT0, hM0] at et
  rw [hA, hKK] at r
  rw [hT0, hM0, hA, hKK]
  have HRD : Hid (∀ w', Below w.heap.size w w' → RdE w' (.slice ao n c) K A) := fun w' hb => r.below hb
  have HK : Hid (K ≤ 1000000) := by show K ≤ 1000000; rw [← hKK]; exact hlen
  have HT : Hid (thing rs.L i = snV T0 M0 (.slice ao n c)) := et
  clear hT0 hM0 hA hKK hlen r et ek hi
  clear h
  go_enter Tryz.func14, Tryz.ntmps14
  go_upto_region 3 with fail
  generalize hW : w.alloc (.cells #[.int .i64 0, .int .i64 0, .slice none 0 0] 45) = W
  obtain ⟨Y0, b0, -⟩ := boxed hW
  obtain ⟨H, hH⟩ : ∃ H, w.heap.size = H := ⟨_, rfl⟩
  have HH : Hid (w.heap.size = H) := hH
  have S0 : Hid (StoV W B S R v rs s) := HS.out.below b0
  rw [hH] at Y0 b0 ⊢
  clear hW hH HS
  have c1 := S0.out.c1
  go_wp2_with fail
  refine (at_inP W B R v rs S0.out.rng i hi').mono ?_; rintro e w1 ⟨rfl, b1⟩
  have Y1 := Y0.below b1 Y0.lt
  have b01 : Below H w w1 := bup b0 (Nat.le_of_eq HH.out.symm) b1
  have r1 := HRD.out w1 (by rw [HH.out]; exact b01)
  clear b1
  rw [HT.out]
  clear Y0 b0 S0 c1
  have R1 : Hid (RdE w1 (.slice ao n c) K A) := r1
  clear r1 HRD
  have hHw := Y1.lt
  go_wp2_with fail
  generalize hV : w1.alloc (.cells #[.int .i64 T0, .int .i64 M0, .slice ao n c] 45) = W2
  obtain ⟨X2, bn, -⟩ := boxed hV
  have Y2 := Y1.below bn Y1.lt
  have B2 := bup b01 (Nat.le_of_eq HH.out.symm) bn
  have R2 : Hid (RdE W2 (.slice ao n c) K A) := R1.out.below bn
  have hHW := Y2.lt
  clear hV bn Y1 b01 R1
  refine (st_own W2 T0 M0 ao n c K A R2.out HK.out).mono ?_; rintro e w3 ⟨u, rfl, o3, b3⟩
  have Y3 := Y2.below b3 Y2.lt
  have B3 : Below H w w3 := bup B2 (Nat.le_of_eq HH.out.symm) b3
  obtain ⟨au, cu, rfl⟩ := o3.form
  obtain ⟨nu, hnu⟩ : ∃ x, (preE A K).length = x := ⟨_, rfl⟩
  rw [hnu] at o3 ⊢
  have O3 : Hid (OwnE w3 (H + 1) (.slice au nu cu) (preE A K)) := OwnE.mono o3 (by omega)
  clear hnu o3 b3 Y2 B2 X2 R2
  have d0 := Y3.cell 0 _ rfl
  have f0 := Y3.froz 0
  have d1 := Y3.cell 1 _ rfl
  have f1 := Y3.froz 1
  have d2 := Y3.cell 2 _ rfl
  have f2 := Y3.froz 2
  have lr := Y3.lt
  go_wp2_with fail
  have RB := blk_three (x0 := .int .i64 T0) (x1 := .int .i64 M0) (x2 := .slice au nu cu) Y3
  have LB := below_three (x0 := .int .i64 T0) (x1 := .int .i64 M0) (x2 := .slice au nu cu) B3 (show H ≤ H by omega)
  have OB := ((O3.out.set (b := H) (o := 0) (x := .int .i64 T0) (by omega)).set (b := H) (o := 1) (x := .int .i64 M0) (by omega)).set (b := H) (o := 2) (x := .slice au nu cu) (by omega)
  generalize ((w3.setCell ⟨H, 0, none⟩ (.int .i64 T0)).setCell ⟨H, 1, none⟩ (.int .i64 M0)).setCell ⟨H, 2, none⟩ (.slice au nu cu) = W9 at RB LB OB ⊢
  have h0 := RB.cell 0 _ rfl
  have h1 := RB.cell 1 _ rfl
  have h2 := RB.cell 2 _ rfl
  refine bodyPost_ret (v := .tuple #[snV T0 M0 (.slice au nu cu), .int .i64 0]) (by simp [results, Tryz.results14, go_sem, h0, h1, h2]) rfl ⟨_, rfl, OB.mono (by rw [HH.out]; omega), by rw [HH.out]; exact LB⟩
set_option maxHeartbeats 2000000 in
/-- What is told of a store is the asker's own (At, Get: the snapshot, then the error, or whether there is one). -/
theorem st_get (w : World) (B S R : Nat) (v : Value) (rs : Rs) (s : Sto) (h : StoV w B S R v rs s) (k : Int) (hlen : (getS s.L k).E.length ≤ 1000000) :
    Calls Tryz.prog 15 #[.pointer (some ⟨S, 0, none⟩), .int .i64 k] w fun e w' => ∃ u, e = .returned (.tuple #[snV (getS s.L k).t (getS s.L k).m u, .bool (isS s.L k)]) ∧ OwnE w' w.heap.size u (preE (atE (getS s.L k).E) ((getS s.L k).E).length) ∧ Below w.heap.size w w' := by
  have HS : Hid (StoV w B S R v rs s) := h
  obtain ⟨ao, n, c, et, r⟩ := h.get k
  have hat := h.isAt k
  obtain ⟨T0, hT0⟩ : ∃ x, (getS s.L k).t = x := ⟨_, rfl⟩
  obtain ⟨M0, hM0⟩ : ∃ x, (getS s.L k).m = x := ⟨_, rfl⟩
  obtain ⟨A, hA⟩ : ∃ x, atE (getS s.L k).E = x := ⟨_, rfl⟩
  obtain ⟨K, hKK⟩ : ∃ x, (getS s.L k).E.length = x := ⟨_, rfl⟩
  rw [hT0, hM0] at et
  rw [hA, hKK] at r
  rw [hT0, hM0, hA, hKK]
  have HRD : Hid (∀ w', Below w.heap.size w w' → RdE w' (.slice ao n c) K A) := fun w' hb => r.below hb
  have HK : Hid (K ≤ 1000000) := by show K ≤ 1000000; rw [← hKK]; exact hlen
  have HT : Hid (getX rs.L k (.agg #[.int .i64 0, .int .i64 0, .slice none 0 0]) = snV T0 M0 (.slice ao n c)) := et
  obtain ⟨qb, hqb⟩ : ∃ x, isS s.L k = x := ⟨_, rfl⟩
  rw [hqb] at hat
  rw [hqb]
  have HQ : Hid (Go.Proofs.YtlpdhglibgnkoaaGreat.isAt rs.L k = qb) := hat
  clear hT0 hM0 hA hKK hlen r et hat hqb
  clear h
  go_enter Tryz.func15, Tryz.ntmps15
  go_upto_region 3 with fail
  generalize hW : w.alloc (.cells #[.int .i64 0, .int .i64 0, .slice none 0 0] 45) = W
  obtain ⟨Y0, b0, -⟩ := boxed hW
  obtain ⟨H, hH⟩ : ∃ H, w.heap.size = H := ⟨_, rfl⟩
  have HH : Hid (w.heap.size = H) := hH
  have S0 : Hid (StoV W B S R v rs s) := HS.out.below b0
  rw [hH] at Y0 b0 ⊢
  clear hW hH HS
  have c1 := S0.out.c1
  go_wp2_with fail
  refine (get_anyP W B R v rs S0.out.rng k).mono ?_; rintro e w1 ⟨rfl, b1⟩
  have Y1 := Y0.below b1 Y0.lt
  have b01 : Below H w w1 := bup b0 (Nat.le_of_eq HH.out.symm) b1
  have r1 := HRD.out w1 (by rw [HH.out]; exact b01)
  clear b1
  rw [HT.out, HQ.out]
  clear Y0 b0 S0 c1
  have R1 : Hid (RdE w1 (.slice ao n c) K A) := r1
  clear r1 HRD
  have hHw := Y1.lt
  go_wp2_with fail
  generalize hV : w1.alloc (.cells #[.int .i64 T0, .int .i64 M0, .slice ao n c] 45) = W2
  obtain ⟨X2, bn, -⟩ := boxed hV
  have Y2 := Y1.below bn Y1.lt
  have B2 := bup b01 (Nat.le_of_eq HH.out.symm) bn
  have R2 : Hid (RdE W2 (.slice ao n c) K A) := R1.out.below bn
  have hHW := Y2.lt
  clear hV bn Y1 b01 R1
  refine (st_own W2 T0 M0 ao n c K A R2.out HK.out).mono ?_; rintro e w3 ⟨u, rfl, o3, b3⟩
  have Y3 := Y2.below b3 Y2.lt
  have B3 : Below H w w3 := bup B2 (Nat.le_of_eq HH.out.symm) b3
  obtain ⟨au, cu, rfl⟩ := o3.form
  obtain ⟨nu, hnu⟩ : ∃ x, (preE A K).length = x := ⟨_, rfl⟩
  rw [hnu] at o3 ⊢
  have O3 : Hid (OwnE w3 (H + 1) (.slice au nu cu) (preE A K)) := OwnE.mono o3 (by omega)
  clear hnu o3 b3 Y2 B2 X2 R2
  have d0 := Y3.cell 0 _ rfl
  have f0 := Y3.froz 0
  have d1 := Y3.cell 1 _ rfl
  have f1 := Y3.froz 1
  have d2 := Y3.cell 2 _ rfl
  have f2 := Y3.froz 2
  have lr := Y3.lt
  go_wp2_with fail
  have RB := blk_three (x0 := .int .i64 T0) (x1 := .int .i64 M0) (x2 := .slice au nu cu) Y3
  have LB := below_three (x0 := .int .i64 T0) (x1 := .int .i64 M0) (x2 := .slice au nu cu) B3 (show H ≤ H by omega)
  have OB := ((O3.out.set (b := H) (o := 0) (x := .int .i64 T0) (by omega)).set (b := H) (o := 1) (x := .int .i64 M0) (by omega)).set (b := H) (o := 2) (x := .slice au nu cu) (by omega)
  generalize ((w3.setCell ⟨H, 0, none⟩ (.int .i64 T0)).setCell ⟨H, 1, none⟩ (.int .i64 M0)).setCell ⟨H, 2, none⟩ (.slice au nu cu) = W9 at RB LB OB ⊢
  have h0 := RB.cell 0 _ rfl
  have h1 := RB.cell 1 _ rfl
  have h2 := RB.cell 2 _ rfl
  refine bodyPost_ret (v := .tuple #[snV T0 M0 (.slice au nu cu), .bool qb]) (by simp [results, Tryz.results15, go_sem, h0, h1, h2]) rfl ⟨_, rfl, OB.mono (by rw [HH.out]; omega), by rw [HH.out]; exact LB⟩
end Go.Proofs.YtlpdhglibgnkoaaGreat
