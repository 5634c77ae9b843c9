/-
  Layer 11 (ring): the document's ring: Until and Get.
-/
import Derived.Test.YtfpngbeomgfmfaaRg8
namespace Go.Proofs.Ytfpngbeomgfmfaa
open Go.RowKit
set_option linter.unusedVariables false
set_option maxRecDepth 20000
/-- A value that reads as these pairs. -/
def RdP (w : World) (u : Value) (L : List Pr) : Prop :=
  ∃ ao cap, u = .slice ao L.length cap ∧ L.length ≤ cap ∧ cap ≤ 9223372036854775807 ∧ (ao = none → cap = 0) ∧ (∀ a, ao = some a → ∃ b o, a = ⟨b, o, none⟩ ∧ b < w.heap.size) ∧ (∀ b o, ao = some ⟨b, o, none⟩ → ∀ j x, (prs L)[j]? = some x → w.cell? ⟨b, o + j, none⟩ = some x)
theorem RdP.lt {w : World} {u : Value} {L : List Pr} (h : RdP w u L) : ∀ k, u.ownBlock = some k → k < w.heap.size := by
  obtain ⟨ao, cap, rfl, _, _, _, h4, _⟩ := h
  intro k hk
  rcases ao with _ | a
  · cases hk
  · obtain ⟨b, o, rfl, hb⟩ := h4 a rfl
    have : b = k := by simpa [Value.ownBlock] using hk
    omega
theorem RdP.some_ {w : World} {u : Value} {L : List Pr} (h : RdP w u L) (hl : L ≠ []) : ∃ b o cap, u = .slice (some ⟨b, o, none⟩) L.length cap ∧ L.length ≤ cap ∧ cap ≤ 9223372036854775807 ∧ b < w.heap.size ∧ ∀ i, i < L.length → w.cell? ⟨b, o + i * 2, none⟩ = some (.int .i64 (keyAt L i)) ∧ w.cell? ⟨b, o + i * 2 + 1, none⟩ = some (thing L i) := by
  have hp := List.length_pos_iff.2 hl
  obtain ⟨ao, cap, rfl, h1, h2, h3, h4, h5⟩ := h
  rcases ao with _ | a
  · have := h3 rfl; omega
  · obtain ⟨b, o, rfl, hb⟩ := h4 a rfl
    exact ⟨b, o, cap, rfl, h1, h2, hb, fun i hi => ⟨h5 b o rfl _ _ (prs_key hi), by have := h5 b o rfl _ _ (prs_thing hi); rw [← Nat.add_assoc] at this; exact this⟩⟩
theorem RdP.same {w w' : World} {u : Value} {L : List Pr} (h : RdP w u L) (hs : w.heap.size ≤ w'.heap.size) (hb : ∀ k, u.ownBlock = some k → w'.heap[k]? = w.heap[k]?) : RdP w' u L := by
  obtain ⟨ao, cap, rfl, h1, h2, h3, h4, h5⟩ := h
  refine ⟨ao, cap, rfl, h1, h2, h3, fun a ha => ?_, fun b o ha j x hx => ?_⟩
  · obtain ⟨b, o, e, hb'⟩ := h4 a ha
    exact ⟨b, o, e, by omega⟩
  · have e := hb b (by rw [ha]; rfl)
    rw [World.cell?_of_block (w := w) (a := ⟨b, o + j, none⟩) e]
    exact h5 b o ha j x hx
/-- The document's ring at block R stands so; its row is u. -/
structure RefV (w : World) (B R : Nat) (u : Value) (s : Rs) : Prop where
  blk : Blk w R [u, .int .i64 (s.M : Nat), .int .i64 s.F, .bool s.G]
  row : RdP w u s.L
  ok : s.ok
  ones : Ones s.L
  ne : some R ≠ u.ownBlock
  le : B ≤ R
theorem RefV.same {w w' : World} {B R : Nat} {u : Value} {s : Rs} (h : RefV w B R u s) (hs : w.heap.size ≤ w'.heap.size) (hR : w'.heap[R]? = w.heap[R]?) (hb : ∀ k, u.ownBlock = some k → w'.heap[k]? = w.heap[k]?) : RefV w' B R u s :=
  ⟨⟨Nat.lt_of_lt_of_le h.blk.lt hs, fun o ho => (World.cell?_of_block (w := w) (a := ⟨R, o, none⟩) hR).trans (h.blk.all o ho), fun o => (World.frozen?_of_block (w := w) (a := ⟨R, o, none⟩) hR).trans (h.blk.froz o)⟩, h.row.same hs hb, h.ok, h.ones, h.ne, h.le⟩
theorem RefV.below {w w' : World} {B R : Nat} {u : Value} {s : Rs} (h : RefV w B R u s) (hb : Below w.heap.size w w') : RefV w' B R u s :=
  h.same hb.size (hb.block R h.blk.lt) (fun k hk => hb.block k (h.row.lt k hk))
theorem RefV.drewN {w : World} {B R : Nat} {u : Value} {s : Rs} (h : RefV w B R u s) (n : Nat) : RefV (w.drewN n) B R u s := h.below (below_drewN (Below.refl _ w) n)
theorem RefV.drew {w : World} {B R : Nat} {u : Value} {s : Rs} (h : RefV w B R u s) : RefV w.drew B R u s := h.below ((Below.refl _ w).drew)
/-- .. beside the program's ring. -/
theorem RefV.chg {w w' : World} {B C R S : Nat} {v v' u : Value} {t : Rs} (hu : RefV w C S u t) (h : Chg B R v v' w w') (hs : Sep R v S u) : RefV w' C S u t ∧ Sep R v' S u := by
  have hoff : ∀ k, u.ownBlock = some k → k ≠ R ∧ some k ≠ v.ownBlock := fun k hk => ⟨fun e => hs.right (by rw [hk, e]), fun e => by
    rcases hs.rows with h' | h'
    · rw [hk] at h'; cases h'
    · exact h' (by rw [hk]; exact e)⟩
  refine ⟨hu.same h.below.size (h.block S hu.blk.lt hs.blks hs.left) (fun k hk => h.block k (hu.row.lt k hk) (hoff k hk).1 (hoff k hk).2), hs.blks, h.off hu.blk.lt hs.left, hs.right, ?_⟩
  cases hq : u.ownBlock with
  | none => exact Or.inl rfl
  | some g => right; exact h.off (hu.row.lt g hq) (hoff g hq).2
theorem untl_take_succ {L : List Pr} {q : Nat} (hq : q < L.length) (k : Int) : untl (L.take (q + 1)) k = untl (L.take q) k + (if keyAt L q ≤ k then 1 else 0) := by
  have e : L.take (q + 1) = L.take q ++ [L[q]] := by rw [List.take_succ_eq_append_getElem hq]
  unfold untl
  rw [e, List.countP_append]
  have : keyAt L q = L[q].1 := by simp [keyAt, List.getD, hq]
  rw [this]
  simp
theorem found_at {L : List Pr} (hr : Rise L) {k : Int} {q : Nat} (hq : q < L.length) (hk : keyAt L q = k) (z : Value) : isAt L k = true ∧ getX L k z = thing L q ∧ untl L k = q + 1 := by
  have h1 := (untl_iff hr k q hq).2 (by omega)
  have h2 : untl L k = q + 1 := by
    have := untl_le L k
    rcases Nat.lt_or_ge (q + 1) (untl L k) with h | h
    · have h3 := (untl_iff hr k (q + 1) (by omega)).1 h
      have h4 := keyAt_lt hr (i := q) (j := q + 1) (by omega) (by omega)
      omega
    · omega
  have h3 : isAt L k = true := by
    obtain ⟨p, hp, hpk, _⟩ := keyAt_mem hq
    exact (isAt_iff hr k).2 ⟨p, hp, hpk.trans hk⟩
  exact ⟨h3, by unfold getX; rw [h3, h2]; rfl, h2⟩
theorem not_found {L : List Pr} (hr : Rise L) {k : Int} (h : ∀ t, t < L.length → keyAt L t ≠ k) (z : Value) : isAt L k = false ∧ getX L k z = z := by
  have h1 : isAt L k = false := by
    cases hi : isAt L k with
    | false => rfl
    | true =>
      obtain ⟨p, hp, e⟩ := (isAt_iff hr k).1 hi
      obtain ⟨i, hi', hk, _⟩ := mem_keyAt hp
      exact absurd (hk.trans e) (h i hi')
  exact ⟨h1, by unfold getX; rw [h1]; rfl⟩
set_option maxHeartbeats 4000000 in
theorem ref_until (w : World) (B R : Nat) (u : Value) (s : Rs) (h : RefV w B R u s) (k : Int) :
    Calls Try.prog 17 #[.pointer (some ⟨R, 0, none⟩), .int .i64 k] w fun e w' => e = .returned (.int .i64 (untl s.L k : Nat)) ∧ w' = w := by
  obtain ⟨ao, cap, hu, h1, h2, _, _, _⟩ := h.row
  obtain ⟨n, hn⟩ : ∃ n, s.L.length = n := ⟨_, rfl⟩
  have hn64 : n ≤ 64 := by have := h.ok.len; have := h.ok.most; omega
  have c0 := h.blk.cell 0 _ rfl
  rw [hu, hn] at c0
  have HC : Hid (∀ q, q < n → ∃ b o, ao = some ⟨b, o, none⟩ ∧ w.cell? ⟨b, o + q * 2, none⟩ = some (.int .i64 (keyAt s.L q))) := fun q hq => by
    have hL : s.L ≠ [] := by intro e; rw [e] at hn; simp at hn; omega
    obtain ⟨b, o, cap', e, _, _, _, hc⟩ := h.row.some_ hL
    rw [hu] at e; injection e with e _ _
    exact ⟨b, o, e, (hc q (by omega)).1⟩
  have HN : Hid (s.L.length = n) := hn
  rw [hn] at h1
  clear h hu hn
  go_enter Try.func17, Try.ntmps17
  go_wp2_with fail
  go_loopg [5, 6] n (fun g c i wr => ∃ (q : Nat), q + g = n ∧ i = .int .i64 q ∧ c = .int .i64 (untl (s.L.take q) k : Nat) ∧ wr = w)
  case atStart => exact ⟨0, by omega, rfl, by simp [untl], rfl⟩
  case round =>
    obtain ⟨q, hq, rfl, rfl, rfl⟩ := hrel
    by_cases hlt : q < n
    · obtain ⟨b, o, rfl, hc⟩ := HC.out q hlt
      have e := untl_take_succ (L := s.L) (q := q) (by rw [HN.out]; exact hlt) k
      have HE : Hid _ := e
      have hub : untl (s.L.take q) k ≤ 64 := by have := untl_le (s.L.take q) k; rw [List.length_take] at this; omega
      obtain ⟨y, hy⟩ : ∃ y, keyAt s.L q = y := ⟨_, rfl⟩
      rw [hy] at hc HE
      obtain ⟨c, hcc⟩ : ∃ c, untl (s.L.take q) k = c := ⟨_, rfl⟩
      rw [hcc] at HE hub ⊢
      clear e hy hcc HC
      by_cases hyk : y ≤ k
      · have d1 : decide (y ≤ k) = true := by simpa using hyk
        go_wp2_with fail
        go_roundg (gk - 1)
        case measure => omega
        case rel => exact ⟨q + 1, by omega, by go_num, by rw [HE.out, if_pos hyk]; rfl, rfl⟩
      · have d1 : decide (y ≤ k) = false := by simpa using hyk
        go_wp2_with fail
        go_roundg (gk - 1)
        case measure => omega
        case rel => exact ⟨q + 1, by omega, by go_num, by rw [HE.out, if_neg (by omega)]; rfl, rfl⟩
    · obtain rfl : q = n := by omega
      have e : s.L.take q = s.L := List.take_of_length_le (by rw [HN.out]; exact Nat.le_refl _)
      rw [e]
      clear HC e
      go_wp2_with fail
      go_ret
      exact ⟨rfl, rfl⟩
set_option maxHeartbeats 4000000 in
theorem ref_get (w : World) (B R : Nat) (u : Value) (s : Rs) (h : RefV w B R u s) (k : Int) :
    Calls Try.prog 15 #[.pointer (some ⟨R, 0, none⟩), .int .i64 k] w fun e w' => e = .returned (.tuple #[getX s.L k (.string ⟨#[]⟩), .bool (isAt s.L k)]) ∧ w' = w := by
  obtain ⟨ao, cap, hu, h1, h2, _, _, _⟩ := h.row
  obtain ⟨n, hn⟩ : ∃ n, s.L.length = n := ⟨_, rfl⟩
  have hn64 : n ≤ 64 := by have := h.ok.len; have := h.ok.most; omega
  have c0 := h.blk.cell 0 _ rfl
  rw [hu, hn] at c0
  have HC : Hid (∀ q, q < n → ∃ b o, ao = some ⟨b, o, none⟩ ∧ w.cell? ⟨b, o + q * 2, none⟩ = some (.int .i64 (keyAt s.L q)) ∧ w.cell? ⟨b, o + q * 2 + 1, none⟩ = some (thing s.L q) ∧ (thing s.L q).oneCell' = true) := fun q hq => by
    have hL : s.L ≠ [] := by intro e; rw [e] at hn; simp at hn; omega
    obtain ⟨b, o, cap', e, _, _, _, hc⟩ := h.row.some_ hL
    rw [hu] at e; injection e with e _ _
    obtain ⟨p, hp, _, e2⟩ := keyAt_mem (L := s.L) (i := q) (by omega)
    exact ⟨b, o, e, (hc q (by omega)).1, (hc q (by omega)).2, by rw [← e2]; exact h.ones p hp⟩
  have HN : Hid (s.L.length = n) := hn
  have HR : Hid (Rise s.L) := h.ok.rise
  rw [hn] at h1
  clear h hu hn
  go_enter Try.func15, Try.ntmps15
  go_wp2_with fail
  go_loopg [6] n (fun g i wr => ∃ (q : Nat), q + g = n ∧ i = .int .i64 q ∧ Hid (∀ t, t < q → keyAt s.L t ≠ k) ∧ wr = w)
  case atStart => exact ⟨0, by omega, rfl, (fun t ht => absurd ht (Nat.not_lt_zero t) : ∀ t, t < 0 → keyAt s.L t ≠ k), rfl⟩
  case round =>
    obtain ⟨q, hq, rfl, HQ, rfl⟩ := hrel
    by_cases hlt : q < n
    · obtain ⟨b, o, rfl, hc, hc1, hone⟩ := HC.out q hlt
      by_cases hyk : keyAt s.L q = k
      · obtain ⟨f1, f2, _⟩ := found_at HR.out (by rw [HN.out]; exact hlt) hyk (.string ⟨#[]⟩)
        have F1 : Hid _ := f1
        have F2 : Hid _ := f2
        rw [hyk] at hc
        obtain ⟨x, hx⟩ : ∃ x, thing s.L q = x := ⟨_, rfl⟩
        rw [hx] at hc1 F2 hone
        clear f1 f2 hyk hx HC HQ
        go_wp2_with fail
        go_ret2
        rw [F1.out, F2.out]
        exact ⟨rfl, rfl⟩
      · have HQ2 : Hid (∀ t, t < q + 1 → keyAt s.L t ≠ k) := fun t ht => by
          rcases Nat.lt_or_ge t q with h | h
          · exact HQ.out t h
          · obtain rfl : t = q := by omega
            exact hyk
        obtain ⟨y, hy⟩ : ∃ y, keyAt s.L q = y := ⟨_, rfl⟩
        rw [hy] at hc hyk
        have d1 : (y == k) = false := by simpa using hyk
        clear hy HC HQ hc1 hone
        go_wp2_with fail
        go_roundg (gk - 1)
        case measure => omega
        case rel => exact ⟨q + 1, by omega, by go_num, HQ2, rfl⟩
    · obtain rfl : q = n := by omega
      obtain ⟨f1, f2⟩ := not_found HR.out (k := k) (fun t ht => HQ.out t (by rw [HN.out] at ht; exact ht)) (.string ⟨#[]⟩)
      have F1 : Hid _ := f1
      have F2 : Hid _ := f2
      clear HC HQ f1 f2
      go_wp2_with fail
      go_ret2
      rw [F1.out, F2.out]
      exact ⟨rfl, rfl⟩
end Go.Proofs.Ytfpngbeomgfmfaa
