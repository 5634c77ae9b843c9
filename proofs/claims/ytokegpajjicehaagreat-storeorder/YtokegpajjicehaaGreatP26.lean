/-
  Texts Dl10, Dl11, Dl12 in one.
-/
import Derived.Test.YtokegpajjicehaaGreatP25
namespace Go.Proofs.YtokegpajjicehaaGreat
open Go.RowKit
set_option linter.unusedVariables false
set_option maxRecDepth 20000

theorem OwnE.mono {w : World} {B B' : Nat} {v : Value} {L : List En} (h : OwnE w B v L) (hB : B' ≤ B) : OwnE w B' v L := by
  refine ⟨h.1, ?_⟩
  rcases h.2 with hn | ⟨g, cap, cur, hv, hb, rest⟩
  · exact Or.inl hn
  · exact Or.inr ⟨g, cap, cur, hv, Nat.le_trans hB hb, rest⟩
theorem dl_collect (w : World) (b Bm : Nat) (M : List En) (h : MapE w b M) (hBm : Bm < w.heap.size) (hm : w.cell? ⟨Bm, 0, none⟩ = some (.map (some b))) :
    Calls Tryz.prog 126 #[.func (.func 128) #[] #[.pointer (some ⟨Bm, 0, none⟩)]] w fun e w' => ∃ v L, e = .returned v ∧ L.Perm M ∧ OwnE w' w.heap.size v L ∧ Below w.heap.size w w' := by
  have hl := len_max h.asc_
  have HA : Hid (Calls Tryz.prog 167 #[.slice none 0 0, .func (.func 128) #[] #[.pointer (some ⟨Bm, 0, none⟩)]] w fun e w' => ∃ v L, e = .returned v ∧ L.Perm M ∧ OwnE w' w.heap.size v L ∧ Below w.heap.size w w') :=
    callsIn_wide.1 (dl_append Fence.wide 5 trivial rfl (by omega) _ _ trivial (enters_of Tryz.func128 (by kernel_rfl) rfl) _ _ M.length (by omega) w (dl_stops Fence.wide 4 trivial rfl (by omega) Bm b M w hBm hm h))
  clear h hm
  go_enter Tryz.func126, Tryz.ntmps126
  go_wp2_with (go_at_call 167; refine HA.out.mono ?_; rintro e w' ⟨v, L, rfl, hp, ho, hb⟩)
  go_ret
  exact ⟨v, L, rfl, hp, ho, hb⟩
theorem below_row {w w1 w2 : World} {B : Nat} {v : Value} {L : List En} (hb : Below B w w1) (hB : B ≤ w1.heap.size) (ho : OwnE w1 B v L) (hg : w1.grownBy w2 v.ownBlock) : Below B w w2 :=
  hb.grown hg hB (fun k hk => (ho.lt k hk).1)
theorem dl_sorted (w : World) (b Bm : Nat) (M : List En) (h : MapE w b M) (hBm : Bm < w.heap.size) (hm : w.cell? ⟨Bm, 0, none⟩ = some (.map (some b))) :
    Calls Tryz.prog 92 #[.func (.func 128) #[] #[.pointer (some ⟨Bm, 0, none⟩)], .func (.func 94) #[] #[]] w fun e w' => ∃ v, e = .returned v ∧ OwnE w' w.heap.size v M ∧ Below w.heap.size w w' := by
  have hl := len_max h.asc_
  have HR : Hid (rise (-1) M) := h.asc_
  have HC : Hid (Calls Tryz.prog 126 #[.func (.func 128) #[] #[.pointer (some ⟨Bm, 0, none⟩)]] w fun e w' => ∃ v L, e = .returned v ∧ L.Perm M ∧ OwnE w' w.heap.size v L ∧ Below w.heap.size w w') := dl_collect w b Bm M h hBm hm
  clear h hm
  go_enter Tryz.func92, Tryz.ntmps92
  go_wp2_with (go_at_call 126; refine HC.out.mono ?_; rintro e w1 ⟨v, L, rfl, hp, ho, hb⟩)
  refine (sortE_any w1 _ v L ho (by have := hp.length_eq; omega)).mono ?_
  rintro e w2 ⟨rfl, S, p1, p2, o2, g2⟩
  have eS : S = M := rise_only HR.out (hp.symm.trans p1.symm) p2
  subst eS
  have b2 := below_row hb hb.size ho g2
  go_wp2_with fail
  go_ret
  exact ⟨v, rfl, o2, b2⟩
theorem dl_rising (w : World) (b : Nat) (M : List En) (h : MapE w b M) :
    Calls Tryz.prog 55 #[.map (some b)] w fun e w' => ∃ v, e = .returned v ∧ OwnE w' w.heap.size v M ∧ Below w.heap.size w w' := by
  have hb0 : Below w.heap.size w (w.alloc (.cells #[.map (some b)] 107)) := (Below.refl _ _).alloc (Nat.le_refl _) _
  have HS : Hid (Calls Tryz.prog 92 #[.func (.func 128) #[] #[.pointer (some ⟨w.heap.size, 0, none⟩)], .func (.func 94) #[] #[]] (w.alloc (.cells #[.map (some b)] 107)) fun e w' => ∃ v, e = .returned v ∧ OwnE w' (w.alloc (.cells #[.map (some b)] 107)).heap.size v M ∧ Below (w.alloc (.cells #[.map (some b)] 107)).heap.size (w.alloc (.cells #[.map (some b)] 107)) w') :=
    dl_sorted _ b w.heap.size M (h.alloc _) (by simp) ((Blk.new w #[.map (some b)] 107 rfl).cell 0 _ rfl)
  have HB : Hid (Below w.heap.size w (w.alloc (.cells #[.map (some b)] 107))) := hb0
  clear h hb0
  go_enter Tryz.func55, Tryz.ntmps55
  go_wp2_with (first | (go_at_call 93; refine (dl_values _ b).mono ?_; rintro e w1 ⟨rfl, rfl⟩) | (go_at_call 92; refine HS.out.mono ?_; rintro e w2 ⟨v, rfl, ho, hb⟩))
  go_ret
  exact ⟨v, rfl, ho.mono HB.out.size, bthen HB.out hb⟩
end Go.Proofs.YtokegpajjicehaaGreat

namespace Go.Proofs.YtokegpajjicehaaGreat
open Go.RowKit
set_option linter.unusedVariables false
set_option maxRecDepth 8000

theorem ne_own {w : World} {B b : Nat} {v : Value} {L : List Rc} (h : OwnR w B v L) (hb : b < B) : some b ≠ v.ownBlock := fun e => by have := (h.lt b e.symm).1; omega
theorem OwnR.turn {w w' : World} {B K : Nat} {u : Value} {L : List Rc} (h : OwnR w B u L) (hg : w.grownBy w' (some K)) (hK : K < B) : OwnR w' B u L := by
  refine World.ownsRow.kept h hg ?_
  by_cases e : u.ownBlock = none
  · exact Or.inl e
  · exact Or.inr (fun e' => ne_own h hK e'.symm)
theorem grownBy_setCellAny (W : World) (b o : Nat) (v : Value) : W.grownBy (W.setCell ⟨b, o, none⟩ v) (some b) :=
  ⟨rfl, rfl, rfl, (KeepsWalks.setCell W _ v).size, fun k _ hk => Below.heap_setCell _ _ _ k (fun e => hk (by rw [e]))⟩
theorem OwnR.set {w : World} {B b o : Nat} {u x : Value} {L : List Rc} (h : OwnR w B u L) (hb : b < B) : OwnR (w.setCell ⟨b, o, none⟩ x) B u L := h.turn (grownBy_setCellAny w b o x) hb
theorem MapE.row {w w' : World} {B K : Nat} {v v' : Value} {L : List Rc} {N : List En} (h : MapE w K N) (ho : OwnR w B v L) (hK : K < B) (k : Grow B v w v' w') : MapE w' K N := h.kept k.by_ (ne_own ho hK)
theorem Blk.row {w w' : World} {B b : Nat} {v v' : Value} {L : List Rc} {cs : List Value} (h : Blk w b cs) (ho : OwnR w B v L) (hb : b < B) (k : Grow B v w v' w') : Blk w' b cs := h.by_ k.by_ (ne_own ho hb)
theorem OwnR.by_ {w w' : World} {B I : Nat} {u : Value} {L : List Rc} (h : OwnR w B u L) (hg : w.grownBy w' (some I)) (hne : some I ≠ u.ownBlock) : OwnR w' B u L := World.ownsRow.kept h hg (Or.inr (fun e => hne e.symm))
section
variable {w : World} {ops : Array Oper} {rest : List Oper} {o : Oper} {a : Act} {Q : Exit → Act → World → Prop}
end
def telE (a b : List En) : Int := if (mrg a b).isNone = true then 15 else 0
def telG (g : Gm) (a b : List En) : Gm := if (mrg a b).isNone = true then ⟨0, 0, 0⟩ else g
def telL (a b : List En) : List Rc := (mrg a b).getD []
end Go.Proofs.YtokegpajjicehaaGreat

namespace Go.Proofs.YtokegpajjicehaaGreat
open Go.RowKit
set_option linter.unusedVariables false
set_option maxRecDepth 8000

def fulG (t m : Int) (L : List En) : Gm := if fulE t m L = 0 then ⟨t, m, -1⟩ else ⟨0, 0, 0⟩
def dlG (t m : Int) (L : List En) (t' m' : Int) (L' : List En) : Gm := if dlE t m L t' m' L' = 0 then ⟨t', m', t⟩ else ⟨0, 0, 0⟩
theorem sn_rise {t m : Int} {A : Nat → En} {n : Nat} (h : snE t m (preE A n) = 0) : rise (-1) (preE A n) := (sn_ok h).2.2.2.2
end Go.Proofs.YtokegpajjicehaaGreat
