/-
  Texts Rec6, Grw in one.
-/
import Derived.Deep.RegionHeldLaw
import Derived.Deep.AppendLies
import Derived.Test.YtlpdhglibgnkoaaGreatP7
namespace Go.Proofs.YtlpdhglibgnkoaaGreat
open Go.RowKit
set_option linter.unusedVariables false

theorem Own.drew {w : World} {B : Nat} {v : Value} {l : List Int} (h : Own w B v l) : Own w.drew B v l := h
theorem app_op {w : World} {o : Oper} {a : Act} {K : Act → World → Prop} {Q : Exit → Act → World → Prop} (s x : Operand)
    (ho : o.op = .call { callee := .builtin .append, args := #[s, x], argTypes := #[32, 32] })
    (B : Nat) (v : Value) (l : List Int) (hs : a.eval s = v) (hown : Own w B v l) (u : Value) (r : List Int) (hx : a.eval x = u) (hr : Rd w u r) (hlen : l.length + r.length ≤ 140737488355328) (hB : B ≤ w.heap.size)
    (h : ∀ v' w', Own w' B v' (l ++ r) → Below B w w' → K (a.put o.dst v') w') : o.wp Tryz.prog a w K Q := by
  obtain ⟨i0, hi, hz0, hz1, hz2⟩ := info_parts info8
  obtain ⟨ao, cap, rfl, h1, h2, hn, h3⟩ := hr
  have go : ∀ ad, ao = some ad → (∀ j u, (u8s r)[j]? = some u → w.cell? (ad.add j) = some u) → o.wp Tryz.prog a w K Q := by
    intro ad had hnews
    subst had
    refine wp_append_own w s x 32 ho B 5 i0 (.int .u8 0) 1 1 Tryz.underlying32 hi hz0 hz1 hz2 rfl (by decide) v l.length (u8s l) hs hown ad r.length cap (u8s r) hx (by rw [u8s_len, Nat.mul_one]) hnews (u8s_one r) (by unfold maxLen; omega) (by omega) hB ?_
    intro v' w' hown' hgrow _
    refine h v' w' ?_ ((Below.refl B w).grown hgrow hB hown.row)
    unfold Own
    rw [List.length_append, ← u8s_app]
    exact hown'
  rcases ao with _ | ad
  · have hr0 : r = [] := by
      rcases h3 with h | ⟨_, _, h, _⟩
      · exact h
      · simp at h
    subst hr0
    have := hn rfl
    subst this
    have hrun := run_append_owned_none (P := Tryz.prog) (w := w) B 32 o.type 5 i0 1 Tryz.underlying32 hi v l.length (u8s l) hown
    have hx' : a.eval x = .slice none 0 0 := hx
    unfold Oper.wp
    simp [execOp, ho, resolve, invoke, builtin, hs, hx', hrun, Result.andThen]
    refine h v w ?_ (Below.refl _ _)
    rw [List.append_nil]; exact hown
  · rcases h3 with h | ⟨b, o', h, hat⟩
    · subst h
      exact go ad rfl (fun j u hu => by simp [u8s] at hu)
    · injection h with h; subst h
      exact go _ rfl hat.news
theorem app_step {w : World} {ops : Array Oper} {o : Oper} {a : Act} {K : Act → World → Prop} {Q : Exit → Act → World → Prop} {E : Prop} (hgd : o.guard = none) (d : Option Nat) (hd : o.dst = d) (s x : Operand)
    (ho : o.op = .call { callee := .builtin .append, args := #[s, x], argTypes := #[32, 32] })
    (B : Nat) (v : Value) (l : List Int) (hs : a.eval s = v) (hown : Own w B v l) (u : Value) (r : List Int) (hx : a.eval x = u) (hr : Rd w u r) (hlen : l.length + r.length ≤ 140737488355328) (hB : B ≤ w.heap.size)
    (h : ∀ v' w', Own w' B v' (l ++ r) → Below B w w' → K (a.put d v') w') :
    if Region.wanted o (yielded ops a.tmps) = true then Oper.wp Tryz.prog o a w K Q else E := by
  subst hd
  have hw : Region.wanted o (yielded ops a.tmps) = true := by simp [Region.wanted, hgd]
  rw [if_pos hw]
  exact app_op s x ho B v l hs hown u r hx hr hlen hB h
theorem size_kind (w : World) : (sizeOf 164).run Tryz.prog w = .ok 3 w := by
  have h : (Tryz.prog.info? 164).map (·.size) = some 3 := by kernel_rfl
  cases hq : Tryz.prog.info? 164 with
  | none => simp [hq] at h
  | some i => simp [hq] at h; simp [sizeOf, typeInfo, hq, h]
theorem kind_at0 (w : World) : (Instr.index 165 (.agg kindA) (.int .i64 0)).run Tryz.prog w = .ok (.agg #[fnV 124, fnV 125, fnV 126]) w := by
  simp only [Instr.index, Sem.run_bind, run_underlying Tryz.underlying165, Result.andThen_ok, asIntOf, Sem.run_pure]
  rw [if_pos (by decide)]
  simp only [Sem.run_bind, size_kind, Result.andThen_ok, part, isAgg, run_underlying Tryz.underlying164, Sem.run_pure, if_true]
  rfl
theorem kind_at1 (w : World) : (Instr.index 165 (.agg kindA) (.int .i64 1)).run Tryz.prog w = .ok (.agg #[fnV 127, fnV 128, fnV 129]) w := by
  simp only [Instr.index, Sem.run_bind, run_underlying Tryz.underlying165, Result.andThen_ok, asIntOf, Sem.run_pure]
  rw [if_pos (by decide)]
  simp only [Sem.run_bind, size_kind, Result.andThen_ok, part, isAgg, run_underlying Tryz.underlying164, Sem.run_pure, if_true]
  rfl
theorem kind_at2 (w : World) : (Instr.index 165 (.agg kindA) (.int .i64 2)).run Tryz.prog w = .ok (.agg #[fnV 130, fnV 131, fnV 132]) w := by
  simp only [Instr.index, Sem.run_bind, run_underlying Tryz.underlying165, Result.andThen_ok, asIntOf, Sem.run_pure]
  rw [if_pos (by decide)]
  simp only [Sem.run_bind, size_kind, Result.andThen_ok, part, isAgg, run_underlying Tryz.underlying164, Sem.run_pure, if_true]
  rfl
theorem kind_at3 (w : World) : (Instr.index 165 (.agg kindA) (.int .i64 3)).run Tryz.prog w = .ok (.agg #[fnV 124, fnV 125, fnV 126]) w := by
  simp only [Instr.index, Sem.run_bind, run_underlying Tryz.underlying165, Result.andThen_ok, asIntOf, Sem.run_pure]
  rw [if_pos (by decide)]
  simp only [Sem.run_bind, size_kind, Result.andThen_ok, part, isAgg, run_underlying Tryz.underlying164, Sem.run_pure, if_true]
  rfl
theorem field_kind (x y z : Value) (w : World) : (Instr.field 164 (.agg #[x, y, z]) 1).run Tryz.prog w = .ok y w := by
  simp [Instr.field, Sem.run_bind, run_underlying Tryz.underlying164, part, isAgg, run_underlying Tryz.underlying161, asAgg]
theorem put_id {i last : Int} (h1 : -1 ≤ last) (h2 : i ≤ 65535) : last < i → (put (i - last - 1)).length ≤ 3 := fun h => put_le 2 (i - last - 1) (by omega) (by omega)
set_option maxRecDepth 8000 in
set_option maxHeartbeats 4000000 in
theorem rec_write (w : World) (r : Rc) (last : Int) (ok : r.ok) (hl : S64 last) : Calls Tryz.prog 69 #[recV r, .int .i64 last] w fun e w' => ∃ v, e = .returned (.tuple #[v, .int .i64 (wrE r last)]) ∧ Own w' w.heap.size v (wrB r last) ∧ Below w.heap.size w w' := by
  have OK : Hid r.ok := ok
  clear ok
  obtain ⟨c, hc⟩ : ∃ c, chk r = c := ⟨_, rfl⟩
  obtain ⟨e, he⟩ : ∃ e, wrE r last = e := ⟨_, rfl⟩
  obtain ⟨l, hll⟩ : ∃ l, wrB r last = l := ⟨_, rfl⟩
  have HC : Hid (chk r = c) := hc
  have HE : Hid (e = if c = 0 then (if last < -1 ∨ 65535 < last then 3 else if r.i ≤ last then 10 else 0) else c) := by rw [← he, ← hc]; rfl
  have HL : Hid (l = if e = 0 then put (r.i - last - 1) ++ r.k :: bodyB r else []) := by rw [← hll, ← he]; rfl
  rw [he, hll]
  clear hc he hll
  obtain ⟨l0, l1⟩ := hl
  obtain ⟨k, i, p0, p1, p2, v0, v1, v2, a⟩ := r
  go_enter Tryz.func69, Tryz.ntmps69
  go_wp2_with fail
  generalize hW : w.alloc (.cells (recA ⟨k, i, p0, p1, p2, v0, v1, v2, a⟩) 107) = W
  obtain ⟨A0, B0, Z0⟩ := boxed hW
  clear hW
  refine (rec_check _ ⟨k, i, p0, p1, p2, v0, v1, v2, a⟩).mono ?_; rw [HC.out]; rintro e' w1 ⟨rfl, b1⟩
  have A1 := A0.below b1 (by omega)
  have B1 := bthen B0 b1
  have zlt : w.heap.size < W.heap.size := by omega
  have s1 := b1.size
  clear A0 Z0 B0
  by_cases h0 : c = 0
  · have HE2 : Hid (e = if last < -1 ∨ 65535 < last then 3 else if i ≤ last then 10 else 0) := by have h := HE.out; rw [if_pos h0] at h; exact h
    clear HE
    subst h0
    have CK := chk_ok HC.out
    obtain ⟨⟨k0, k1⟩, ⟨i0, i1⟩, _, _⟩ := CK
    simp only at k0 k1 i0 i1
    go_wp2_with fail
    refine (rec_isLast _ last).mono ?_; rintro e' w2 ⟨rfl, rfl⟩
    by_cases h1 : -1 ≤ last ∧ last ≤ 65535
    · rw [decide_eq_true h1]
      have x1 := A1.cell 1 _ rfl
      have la := A1.lt
      by_cases h2 : i ≤ last
      · go_wp2_with fail
        go_ret2
        obtain rfl : e = 10 := by rw [HE2.out, if_neg (by omega), if_pos h2]
        exact ⟨_, rfl, by rw [HL.out, if_neg (by omega)]; exact Own.nil _ _, B1⟩
      · have e0 : e = 0 := by rw [HE2.out, if_neg (by omega), if_neg h2]
        have L0 := HL.out
        rw [if_pos e0] at L0
        have HL2 : Hid (l = put (i - last - 1) ++ k :: bodyB ⟨k, i, p0, p1, p2, v0, v1, v2, a⟩) := L0
        have HP := put_id (i := i) h1.1 i1 (by omega)
        obtain ⟨d, hd⟩ : ∃ d, i - last - 1 = d := ⟨_, rfl⟩
        have bd : 0 ≤ d ∧ d ≤ 65535 := by omega
        rw [hd] at HL2 HP
        subst e0
        clear HE2 HL L0 HC
        obtain ⟨d0, d1⟩ := bd
        go_wp2_with fail
        refine (put_any d d0 (by omega) _).mono ?_; rintro e' w3 ⟨u, rfl, own3, b3⟩
        have A3 := A1.below b3 la
        have B3 := bup b1 (Nat.le_refl _) b3
        have HB : Hid (Below w.heap.size w w3) := bthen B1 b3
        have O3 : Hid (Own w3 W.heap.size u (put d)) := own3.mono s1
        have s3 := b3.size
        clear own3 b3 A1 b1 x1
        have x0 := A3.cell 0 _ rfl
        have l3 := A3.lt
        obtain ⟨H, hH⟩ : ∃ H, w.heap.size = H := ⟨_, rfl⟩
        rw [hH] at A3 x0 l3 zlt HB
        rw [hH]
        clear la
        by_cases g0 : k = 0
        · subst g0
          go_wp2_with (at_builtin; refine app_wp rfl _ _ rfl W.heap.size _ (put d) rfl (by exact O3.out.below ((Below.refl _ _).alloc (Nat.le_refl _) _)) _ [0] rfl (by exact Rd.one w3 0) (by simp; omega) (by simp; omega) ?_; intro u4 w4 own4 b4)
          have B4 := (B3.alloc B3.size (.cells #[.int .u8 0] 5)).trans b4
          have A4 := (A3.alloc (.cells #[.int .u8 0] 5)).below b4 zlt
          have HB4 : Hid (Below H w w4) := (HB.out.alloc (by omega) (.cells #[.int .u8 0] 5)).trans (b4.mono (by omega))
          have O4 : Hid (Own w4 W.heap.size u4 (put d ++ [0])) := own4
          have len : (put d ++ [(0 : Int)]).length ≤ 4 := by rw [List.length_append]; simp; omega
          have LB : (wholeB ⟨0, i, p0, p1, p2, v0, v1, v2, a⟩).length ≤ 64 := by have := (whole_len OK.out); omega
          clear own4 b4 B3 A3 O3 HB
          have y0_0 := A4.cell 0 _ rfl
          have y1_0 := A4.cell 1 _ rfl
          have y2_0 := A4.cell 2 _ rfl
          have y3_0 := A4.cell 3 _ rfl
          have y4_0 := A4.cell 4 _ rfl
          have y5_0 := A4.cell 5 _ rfl
          have y6_0 := A4.cell 6 _ rfl
          have y7_0 := A4.cell 7 _ rfl
          have y8_0 := A4.cell 8 _ rfl
          have l4 := A4.lt
          have ki := kind_at0
          have kf := field_kind
          go_region_held_law (fun w' => w'.cell? ⟨H, 0, none⟩ = some (.int .i64 0) ∧ w'.cell? ⟨H, 1, none⟩ = some (.int .i64 i) ∧ w'.cell? ⟨H, 2, none⟩ = some (.int .i64 p0) ∧ w'.cell? ⟨H, 3, none⟩ = some (.int .i64 p1) ∧ w'.cell? ⟨H, 4, none⟩ = some (.int .i64 p2) ∧ w'.cell? ⟨H, 5, none⟩ = some (.int .i64 v0) ∧ w'.cell? ⟨H, 6, none⟩ = some (.int .i64 v1) ∧ w'.cell? ⟨H, 7, none⟩ = some (.int .i64 v2) ∧ w'.cell? ⟨H, 8, none⟩ = some (.int .u16 a)) (first | with_reducible exact ⟨y0_3, y1_3, y2_3, y3_3, y4_3, y5_3, y6_3, y7_3, y8_3⟩ | with_reducible exact ⟨y0_2, y1_2, y2_2, y3_2, y4_2, y5_2, y6_2, y7_2, y8_2⟩ | with_reducible exact ⟨y0_1, y1_1, y2_1, y3_1, y4_1, y5_1, y6_1, y7_1, y8_1⟩ | with_reducible exact ⟨y0_0, y1_0, y2_0, y3_0, y4_0, y5_0, y6_0, y7_0, y8_0⟩ | go_keep)
            (first
              | (go_at_call 105; (with_reducible refine (rec_kinds _).mono ?_); rintro e' w5 ⟨rfl, b5⟩; have A5 := A4.drew.below b5 A4.lt; have O5 : Hid (Own w5 W.heap.size u4 (put d ++ [0])) := Own.below O4.out.drew b5; have B5 := bup B4.drew (Nat.le_refl _) b5; have HB5 : Hid (Below H w w5) := bup HB4.out.drew (by omega) b5; have s5 := B5.size; have y0_1 := A5.cell 0 _ rfl; have y1_1 := A5.cell 1 _ rfl; have y2_1 := A5.cell 2 _ rfl; have y3_1 := A5.cell 3 _ rfl; have y4_1 := A5.cell 4 _ rfl; have y5_1 := A5.cell 5 _ rfl; have y6_1 := A5.cell 6 _ rfl; have y7_1 := A5.cell 7 _ rfl; have y8_1 := A5.cell 8 _ rfl)
              | (go_at_call 125; (with_reducible refine (rec_writeWhole _ ⟨0, i, p0, p1, p2, v0, v1, v2, a⟩ OK.out).mono ?_); rintro e' w6 ⟨u6, rfl, own6, b6⟩; have A6 := A5.below b6 A5.lt; have O6 : Hid (Own w6 W.heap.size u4 (put d ++ [0])) := Own.below O5.out b6; have B6 := bup B5 (Nat.le_refl _) b6; have HB6 : Hid (Below H w w6) := bup HB5.out (by omega) b6; have s6 := B6.size; have R6 : Hid (Rd w6 u6 (wholeB ⟨0, i, p0, p1, p2, v0, v1, v2, a⟩)) := own6.rd; clear own6; have y0_2 := A6.cell 0 _ rfl; have y1_2 := A6.cell 1 _ rfl; have y2_2 := A6.cell 2 _ rfl; have y3_2 := A6.cell 3 _ rfl; have y4_2 := A6.cell 4 _ rfl; have y5_2 := A6.cell 5 _ rfl; have y6_2 := A6.cell 6 _ rfl; have y7_2 := A6.cell 7 _ rfl; have y8_2 := A6.cell 8 _ rfl)
              | (refine app_step rfl (some 41) rfl _ _ rfl W.heap.size _ (put d ++ [0]) rfl (by exact O6.out) _ (wholeB ⟨0, i, p0, p1, p2, v0, v1, v2, a⟩) rfl (by exact R6.out) (by omega) (by omega) ?_; intro u7 w7 own7 b7; (try simp only [Act.put, List.setIfInBounds_toArray, List.set_cons_zero, List.set_cons_succ]); have A7 := A6.below b7 zlt; have HB7 : Hid (Below H w w7) := HB6.out.trans (b7.mono (by omega)); have O7 : Hid (Own w7 W.heap.size u7 ((put d ++ [0]) ++ (wholeB ⟨0, i, p0, p1, p2, v0, v1, v2, a⟩))) := own7; clear own7 b7; have y0_3 := A7.cell 0 _ rfl; have y1_3 := A7.cell 1 _ rfl; have y2_3 := A7.cell 2 _ rfl; have y3_3 := A7.cell 3 _ rfl; have y4_3 := A7.cell 4 _ rfl; have y5_3 := A7.cell 5 _ rfl; have y6_3 := A7.cell 6 _ rfl; have y7_3 := A7.cell 7 _ rfl; have y8_3 := A7.cell 8 _ rfl))
          go_wp2_with fail
          go_ret2
          subst hH
          refine ⟨_, rfl, ?_, HB7.out⟩
          rw [HL2.out]
          have h := O7.out.mono (B' := w.heap.size) (by omega)
          rw [List.append_assoc] at h
          exact h
        by_cases g1 : k = 1
        · subst g1
          go_wp2_with (at_builtin; refine app_wp rfl _ _ rfl W.heap.size _ (put d) rfl (by exact O3.out.below ((Below.refl _ _).alloc (Nat.le_refl _) _)) _ [1] rfl (by exact Rd.one w3 1) (by simp; omega) (by simp; omega) ?_; intro u4 w4 own4 b4)
          have B4 := (B3.alloc B3.size (.cells #[.int .u8 1] 5)).trans b4
          have A4 := (A3.alloc (.cells #[.int .u8 1] 5)).below b4 zlt
          have HB4 : Hid (Below H w w4) := (HB.out.alloc (by omega) (.cells #[.int .u8 1] 5)).trans (b4.mono (by omega))
          have O4 : Hid (Own w4 W.heap.size u4 (put d ++ [1])) := own4
          have len : (put d ++ [(1 : Int)]).length ≤ 4 := by rw [List.length_append]; simp; omega
          have LB : (updB ⟨1, i, p0, p1, p2, v0, v1, v2, a⟩).length ≤ 64 := by have := (show (updB ⟨1, i, p0, p1, p2, v0, v1, v2, a⟩).length ≤ 64 from body_len OK.out); omega
          clear own4 b4 B3 A3 O3 HB
          have y0_0 := A4.cell 0 _ rfl
          have y1_0 := A4.cell 1 _ rfl
          have y2_0 := A4.cell 2 _ rfl
          have y3_0 := A4.cell 3 _ rfl
          have y4_0 := A4.cell 4 _ rfl
          have y5_0 := A4.cell 5 _ rfl
          have y6_0 := A4.cell 6 _ rfl
          have y7_0 := A4.cell 7 _ rfl
          have y8_0 := A4.cell 8 _ rfl
          have l4 := A4.lt
          have ki := kind_at1
          have kf := field_kind
          go_region_held_law (fun w' => w'.cell? ⟨H, 0, none⟩ = some (.int .i64 1) ∧ w'.cell? ⟨H, 1, none⟩ = some (.int .i64 i) ∧ w'.cell? ⟨H, 2, none⟩ = some (.int .i64 p0) ∧ w'.cell? ⟨H, 3, none⟩ = some (.int .i64 p1) ∧ w'.cell? ⟨H, 4, none⟩ = some (.int .i64 p2) ∧ w'.cell? ⟨H, 5, none⟩ = some (.int .i64 v0) ∧ w'.cell? ⟨H, 6, none⟩ = some (.int .i64 v1) ∧ w'.cell? ⟨H, 7, none⟩ = some (.int .i64 v2) ∧ w'.cell? ⟨H, 8, none⟩ = some (.int .u16 a)) (first | with_reducible exact ⟨y0_3, y1_3, y2_3, y3_3, y4_3, y5_3, y6_3, y7_3, y8_3⟩ | with_reducible exact ⟨y0_2, y1_2, y2_2, y3_2, y4_2, y5_2, y6_2, y7_2, y8_2⟩ | with_reducible exact ⟨y0_1, y1_1, y2_1, y3_1, y4_1, y5_1, y6_1, y7_1, y8_1⟩ | with_reducible exact ⟨y0_0, y1_0, y2_0, y3_0, y4_0, y5_0, y6_0, y7_0, y8_0⟩ | go_keep)
            (first
              | (go_at_call 105; (with_reducible refine (rec_kinds _).mono ?_); rintro e' w5 ⟨rfl, b5⟩; have A5 := A4.drew.below b5 A4.lt; have O5 : Hid (Own w5 W.heap.size u4 (put d ++ [1])) := Own.below O4.out.drew b5; have B5 := bup B4.drew (Nat.le_refl _) b5; have HB5 : Hid (Below H w w5) := bup HB4.out.drew (by omega) b5; have s5 := B5.size; have y0_1 := A5.cell 0 _ rfl; have y1_1 := A5.cell 1 _ rfl; have y2_1 := A5.cell 2 _ rfl; have y3_1 := A5.cell 3 _ rfl; have y4_1 := A5.cell 4 _ rfl; have y5_1 := A5.cell 5 _ rfl; have y6_1 := A5.cell 6 _ rfl; have y7_1 := A5.cell 7 _ rfl; have y8_1 := A5.cell 8 _ rfl)
              | (go_at_call 128; (with_reducible refine (rec_writeUpdate _ ⟨1, i, p0, p1, p2, v0, v1, v2, a⟩ OK.out).mono ?_); rintro e' w6 ⟨u6, rfl, own6, b6⟩; have A6 := A5.below b6 A5.lt; have O6 : Hid (Own w6 W.heap.size u4 (put d ++ [1])) := Own.below O5.out b6; have B6 := bup B5 (Nat.le_refl _) b6; have HB6 : Hid (Below H w w6) := bup HB5.out (by omega) b6; have s6 := B6.size; have R6 : Hid (Rd w6 u6 (updB ⟨1, i, p0, p1, p2, v0, v1, v2, a⟩)) := own6.rd; clear own6; have y0_2 := A6.cell 0 _ rfl; have y1_2 := A6.cell 1 _ rfl; have y2_2 := A6.cell 2 _ rfl; have y3_2 := A6.cell 3 _ rfl; have y4_2 := A6.cell 4 _ rfl; have y5_2 := A6.cell 5 _ rfl; have y6_2 := A6.cell 6 _ rfl; have y7_2 := A6.cell 7 _ rfl; have y8_2 := A6.cell 8 _ rfl)
              | (refine app_step rfl (some 41) rfl _ _ rfl W.heap.size _ (put d ++ [1]) rfl (by exact O6.out) _ (updB ⟨1, i, p0, p1, p2, v0, v1, v2, a⟩) rfl (by exact R6.out) (by omega) (by omega) ?_; intro u7 w7 own7 b7; (try simp only [Act.put, List.setIfInBounds_toArray, List.set_cons_zero, List.set_cons_succ]); have A7 := A6.below b7 zlt; have HB7 : Hid (Below H w w7) := HB6.out.trans (b7.mono (by omega)); have O7 : Hid (Own w7 W.heap.size u7 ((put d ++ [1]) ++ (updB ⟨1, i, p0, p1, p2, v0, v1, v2, a⟩))) := own7; clear own7 b7; have y0_3 := A7.cell 0 _ rfl; have y1_3 := A7.cell 1 _ rfl; have y2_3 := A7.cell 2 _ rfl; have y3_3 := A7.cell 3 _ rfl; have y4_3 := A7.cell 4 _ rfl; have y5_3 := A7.cell 5 _ rfl; have y6_3 := A7.cell 6 _ rfl; have y7_3 := A7.cell 7 _ rfl; have y8_3 := A7.cell 8 _ rfl))
          go_wp2_with fail
          go_ret2
          subst hH
          refine ⟨_, rfl, ?_, HB7.out⟩
          rw [HL2.out]
          have h := O7.out.mono (B' := w.heap.size) (by omega)
          rw [List.append_assoc] at h
          exact h
        by_cases g2 : k = 2
        · subst g2
          go_wp2_with (at_builtin; refine app_wp rfl _ _ rfl W.heap.size _ (put d) rfl (by exact O3.out.below ((Below.refl _ _).alloc (Nat.le_refl _) _)) _ [2] rfl (by exact Rd.one w3 2) (by simp; omega) (by simp; omega) ?_; intro u4 w4 own4 b4)
          have B4 := (B3.alloc B3.size (.cells #[.int .u8 2] 5)).trans b4
          have A4 := (A3.alloc (.cells #[.int .u8 2] 5)).below b4 zlt
          have HB4 : Hid (Below H w w4) := (HB.out.alloc (by omega) (.cells #[.int .u8 2] 5)).trans (b4.mono (by omega))
          have O4 : Hid (Own w4 W.heap.size u4 (put d ++ [2])) := own4
          have len : (put d ++ [(2 : Int)]).length ≤ 4 := by rw [List.length_append]; simp; omega
          have LB : (([] : List Int)).length ≤ 64 := by have := (by simp : ([] : List Int).length ≤ 64); omega
          clear own4 b4 B3 A3 O3 HB
          have y0_0 := A4.cell 0 _ rfl
          have y1_0 := A4.cell 1 _ rfl
          have y2_0 := A4.cell 2 _ rfl
          have y3_0 := A4.cell 3 _ rfl
          have y4_0 := A4.cell 4 _ rfl
          have y5_0 := A4.cell 5 _ rfl
          have y6_0 := A4.cell 6 _ rfl
          have y7_0 := A4.cell 7 _ rfl
          have y8_0 := A4.cell 8 _ rfl
          have l4 := A4.lt
          have ki := kind_at2
          have kf := field_kind
          go_region_held_law (fun w' => w'.cell? ⟨H, 0, none⟩ = some (.int .i64 2) ∧ w'.cell? ⟨H, 1, none⟩ = some (.int .i64 i) ∧ w'.cell? ⟨H, 2, none⟩ = some (.int .i64 p0) ∧ w'.cell? ⟨H, 3, none⟩ = some (.int .i64 p1) ∧ w'.cell? ⟨H, 4, none⟩ = some (.int .i64 p2) ∧ w'.cell? ⟨H, 5, none⟩ = some (.int .i64 v0) ∧ w'.cell? ⟨H, 6, none⟩ = some (.int .i64 v1) ∧ w'.cell? ⟨H, 7, none⟩ = some (.int .i64 v2) ∧ w'.cell? ⟨H, 8, none⟩ = some (.int .u16 a)) (first | with_reducible exact ⟨y0_3, y1_3, y2_3, y3_3, y4_3, y5_3, y6_3, y7_3, y8_3⟩ | with_reducible exact ⟨y0_2, y1_2, y2_2, y3_2, y4_2, y5_2, y6_2, y7_2, y8_2⟩ | with_reducible exact ⟨y0_1, y1_1, y2_1, y3_1, y4_1, y5_1, y6_1, y7_1, y8_1⟩ | with_reducible exact ⟨y0_0, y1_0, y2_0, y3_0, y4_0, y5_0, y6_0, y7_0, y8_0⟩ | go_keep)
            (first
              | (go_at_call 105; (with_reducible refine (rec_kinds _).mono ?_); rintro e' w5 ⟨rfl, b5⟩; have A5 := A4.drew.below b5 A4.lt; have O5 : Hid (Own w5 W.heap.size u4 (put d ++ [2])) := Own.below O4.out.drew b5; have B5 := bup B4.drew (Nat.le_refl _) b5; have HB5 : Hid (Below H w w5) := bup HB4.out.drew (by omega) b5; have s5 := B5.size; have y0_1 := A5.cell 0 _ rfl; have y1_1 := A5.cell 1 _ rfl; have y2_1 := A5.cell 2 _ rfl; have y3_1 := A5.cell 3 _ rfl; have y4_1 := A5.cell 4 _ rfl; have y5_1 := A5.cell 5 _ rfl; have y6_1 := A5.cell 6 _ rfl; have y7_1 := A5.cell 7 _ rfl; have y8_1 := A5.cell 8 _ rfl)
              | (go_at_call 131; (with_reducible refine (rec_writeNothing _ ⟨2, i, p0, p1, p2, v0, v1, v2, a⟩).mono ?_); rintro e' w6 ⟨u6, rfl, own6, b6⟩; have A6 := A5.below b6 A5.lt; have O6 : Hid (Own w6 W.heap.size u4 (put d ++ [2])) := Own.below O5.out b6; have B6 := bup B5 (Nat.le_refl _) b6; have HB6 : Hid (Below H w w6) := bup HB5.out (by omega) b6; have s6 := B6.size; have R6 : Hid (Rd w6 u6 (([] : List Int))) := own6.rd; clear own6; have y0_2 := A6.cell 0 _ rfl; have y1_2 := A6.cell 1 _ rfl; have y2_2 := A6.cell 2 _ rfl; have y3_2 := A6.cell 3 _ rfl; have y4_2 := A6.cell 4 _ rfl; have y5_2 := A6.cell 5 _ rfl; have y6_2 := A6.cell 6 _ rfl; have y7_2 := A6.cell 7 _ rfl; have y8_2 := A6.cell 8 _ rfl)
              | (refine app_step rfl (some 41) rfl _ _ rfl W.heap.size _ (put d ++ [2]) rfl (by exact O6.out) _ (([] : List Int)) rfl (by exact R6.out) (by omega) (by omega) ?_; intro u7 w7 own7 b7; (try simp only [Act.put, List.setIfInBounds_toArray, List.set_cons_zero, List.set_cons_succ]); have A7 := A6.below b7 zlt; have HB7 : Hid (Below H w w7) := HB6.out.trans (b7.mono (by omega)); have O7 : Hid (Own w7 W.heap.size u7 ((put d ++ [2]) ++ (([] : List Int)))) := own7; clear own7 b7; have y0_3 := A7.cell 0 _ rfl; have y1_3 := A7.cell 1 _ rfl; have y2_3 := A7.cell 2 _ rfl; have y3_3 := A7.cell 3 _ rfl; have y4_3 := A7.cell 4 _ rfl; have y5_3 := A7.cell 5 _ rfl; have y6_3 := A7.cell 6 _ rfl; have y7_3 := A7.cell 7 _ rfl; have y8_3 := A7.cell 8 _ rfl))
          go_wp2_with fail
          go_ret2
          subst hH
          refine ⟨_, rfl, ?_, HB7.out⟩
          rw [HL2.out]
          have h := O7.out.mono (B' := w.heap.size) (by omega)
          rw [List.append_assoc] at h
          exact h
        · obtain rfl : k = 3 := by omega
          go_wp2_with (at_builtin; refine app_wp rfl _ _ rfl W.heap.size _ (put d) rfl (by exact O3.out.below ((Below.refl _ _).alloc (Nat.le_refl _) _)) _ [3] rfl (by exact Rd.one w3 3) (by simp; omega) (by simp; omega) ?_; intro u4 w4 own4 b4)
          have B4 := (B3.alloc B3.size (.cells #[.int .u8 3] 5)).trans b4
          have A4 := (A3.alloc (.cells #[.int .u8 3] 5)).below b4 zlt
          have HB4 : Hid (Below H w w4) := (HB.out.alloc (by omega) (.cells #[.int .u8 3] 5)).trans (b4.mono (by omega))
          have O4 : Hid (Own w4 W.heap.size u4 (put d ++ [3])) := own4
          have len : (put d ++ [(3 : Int)]).length ≤ 4 := by rw [List.length_append]; simp; omega
          have LB : (wholeB ⟨3, i, p0, p1, p2, v0, v1, v2, a⟩).length ≤ 64 := by have := (whole_len OK.out); omega
          clear own4 b4 B3 A3 O3 HB
          have y0_0 := A4.cell 0 _ rfl
          have y1_0 := A4.cell 1 _ rfl
          have y2_0 := A4.cell 2 _ rfl
          have y3_0 := A4.cell 3 _ rfl
          have y4_0 := A4.cell 4 _ rfl
          have y5_0 := A4.cell 5 _ rfl
          have y6_0 := A4.cell 6 _ rfl
          have y7_0 := A4.cell 7 _ rfl
          have y8_0 := A4.cell 8 _ rfl
          have l4 := A4.lt
          have ki := kind_at3
          have kf := field_kind
          go_region_held_law (fun w' => w'.cell? ⟨H, 0, none⟩ = some (.int .i64 3) ∧ w'.cell? ⟨H, 1, none⟩ = some (.int .i64 i) ∧ w'.cell? ⟨H, 2, none⟩ = some (.int .i64 p0) ∧ w'.cell? ⟨H, 3, none⟩ = some (.int .i64 p1) ∧ w'.cell? ⟨H, 4, none⟩ = some (.int .i64 p2) ∧ w'.cell? ⟨H, 5, none⟩ = some (.int .i64 v0) ∧ w'.cell? ⟨H, 6, none⟩ = some (.int .i64 v1) ∧ w'.cell? ⟨H, 7, none⟩ = some (.int .i64 v2) ∧ w'.cell? ⟨H, 8, none⟩ = some (.int .u16 a)) (first | with_reducible exact ⟨y0_3, y1_3, y2_3, y3_3, y4_3, y5_3, y6_3, y7_3, y8_3⟩ | with_reducible exact ⟨y0_2, y1_2, y2_2, y3_2, y4_2, y5_2, y6_2, y7_2, y8_2⟩ | with_reducible exact ⟨y0_1, y1_1, y2_1, y3_1, y4_1, y5_1, y6_1, y7_1, y8_1⟩ | with_reducible exact ⟨y0_0, y1_0, y2_0, y3_0, y4_0, y5_0, y6_0, y7_0, y8_0⟩ | go_keep)
            (first
              | (go_at_call 105; (with_reducible refine (rec_kinds _).mono ?_); rintro e' w5 ⟨rfl, b5⟩; have A5 := A4.drew.below b5 A4.lt; have O5 : Hid (Own w5 W.heap.size u4 (put d ++ [3])) := Own.below O4.out.drew b5; have B5 := bup B4.drew (Nat.le_refl _) b5; have HB5 : Hid (Below H w w5) := bup HB4.out.drew (by omega) b5; have s5 := B5.size; have y0_1 := A5.cell 0 _ rfl; have y1_1 := A5.cell 1 _ rfl; have y2_1 := A5.cell 2 _ rfl; have y3_1 := A5.cell 3 _ rfl; have y4_1 := A5.cell 4 _ rfl; have y5_1 := A5.cell 5 _ rfl; have y6_1 := A5.cell 6 _ rfl; have y7_1 := A5.cell 7 _ rfl; have y8_1 := A5.cell 8 _ rfl)
              | (go_at_call 125; (with_reducible refine (rec_writeWhole _ ⟨3, i, p0, p1, p2, v0, v1, v2, a⟩ OK.out).mono ?_); rintro e' w6 ⟨u6, rfl, own6, b6⟩; have A6 := A5.below b6 A5.lt; have O6 : Hid (Own w6 W.heap.size u4 (put d ++ [3])) := Own.below O5.out b6; have B6 := bup B5 (Nat.le_refl _) b6; have HB6 : Hid (Below H w w6) := bup HB5.out (by omega) b6; have s6 := B6.size; have R6 : Hid (Rd w6 u6 (wholeB ⟨3, i, p0, p1, p2, v0, v1, v2, a⟩)) := own6.rd; clear own6; have y0_2 := A6.cell 0 _ rfl; have y1_2 := A6.cell 1 _ rfl; have y2_2 := A6.cell 2 _ rfl; have y3_2 := A6.cell 3 _ rfl; have y4_2 := A6.cell 4 _ rfl; have y5_2 := A6.cell 5 _ rfl; have y6_2 := A6.cell 6 _ rfl; have y7_2 := A6.cell 7 _ rfl; have y8_2 := A6.cell 8 _ rfl)
              | (refine app_step rfl (some 41) rfl _ _ rfl W.heap.size _ (put d ++ [3]) rfl (by exact O6.out) _ (wholeB ⟨3, i, p0, p1, p2, v0, v1, v2, a⟩) rfl (by exact R6.out) (by omega) (by omega) ?_; intro u7 w7 own7 b7; (try simp only [Act.put, List.setIfInBounds_toArray, List.set_cons_zero, List.set_cons_succ]); have A7 := A6.below b7 zlt; have HB7 : Hid (Below H w w7) := HB6.out.trans (b7.mono (by omega)); have O7 : Hid (Own w7 W.heap.size u7 ((put d ++ [3]) ++ (wholeB ⟨3, i, p0, p1, p2, v0, v1, v2, a⟩))) := own7; clear own7 b7; have y0_3 := A7.cell 0 _ rfl; have y1_3 := A7.cell 1 _ rfl; have y2_3 := A7.cell 2 _ rfl; have y3_3 := A7.cell 3 _ rfl; have y4_3 := A7.cell 4 _ rfl; have y5_3 := A7.cell 5 _ rfl; have y6_3 := A7.cell 6 _ rfl; have y7_3 := A7.cell 7 _ rfl; have y8_3 := A7.cell 8 _ rfl))
          go_wp2_with fail
          go_ret2
          subst hH
          refine ⟨_, rfl, ?_, HB7.out⟩
          rw [HL2.out]
          have h := O7.out.mono (B' := w.heap.size) (by omega)
          rw [List.append_assoc] at h
          exact h
    · rw [decide_eq_false h1]
      go_wp2_with fail
      go_ret2
      obtain rfl : e = 3 := by rw [HE2.out, if_pos (by omega)]
      exact ⟨_, rfl, by rw [HL.out, if_neg (by omega)]; exact Own.nil _ _, B1⟩
  · go_wp2_with fail
    go_ret2
    obtain rfl : e = c := by rw [HE.out, if_neg h0]
    exact ⟨_, rfl, by rw [HL.out, if_neg (by omega)]; exact Own.nil _ _, B1⟩
end Go.Proofs.YtlpdhglibgnkoaaGreat

namespace Go.Proofs.YtlpdhglibgnkoaaGreat
open Go.RowKit
set_option linter.unusedVariables false

structure Grow (B : Nat) (v : Value) (w : World) (v' : Value) (w' : World) : Prop where
  below : Below B w w'
  by_ : w.grownBy w' v.ownBlock
  blk : v'.ownBlock = v.ownBlock ∨ v'.ownBlock = some w.heap.size
/-- Two rows lie in blocks of their own. -/
def Apart (u v : Value) : Prop := u.ownBlock = none ∨ u.ownBlock ≠ v.ownBlock
theorem Apart.nil (u : Value) : Apart u (.slice none 0 0) := by
  unfold Apart
  cases h : u.ownBlock with
  | none => exact Or.inl rfl
  | some g => right; simp [Value.ownBlock]
theorem Apart.symm {u v : Value} (h : Apart u v) : Apart v u := by
  unfold Apart at h ⊢
  cases hv : v.ownBlock with
  | none => exact Or.inl rfl
  | some g =>
    right
    rcases h with h | h
    · rw [h]; simp
    · rw [hv] at h; exact fun e => h e.symm
theorem Own.lt {w : World} {B : Nat} {v : Value} {l : List Int} (h : Own w B v l) : ∀ k, v.ownBlock = some k → B ≤ k ∧ k < w.heap.size := World.ownsRow.lt h
/-- A new row, and one that was there. -/
theorem Apart.new {w w' : World} {B : Nat} {u v : Value} {l m : List Int} (hu : Own w' w.heap.size u m) (hv : Own w B v l) : Apart u v := by
  unfold Apart
  cases h : u.ownBlock with
  | none => exact Or.inl rfl
  | some g =>
    right
    intro h'
    have h1 := (hu.lt g h).1
    have h2 := (hv.lt g h'.symm).2
    omega
theorem Own.grow {B B2 : Nat} {w w' : World} {u v v' : Value} {m : List Int} (h : Own w B2 u m) (ha : Apart u v) (k : Grow B v w v' w') : Own w' B2 u m ∧ Apart u v' := by
  refine ⟨World.ownsRow.kept h k.by_ ha, ?_⟩
  rcases k.blk with e | e
  · unfold Apart at ha ⊢; rw [e]; exact ha
  · unfold Apart; rw [e]
    cases hb : u.ownBlock with
    | none => exact Or.inl rfl
    | some g =>
      right
      intro h'
      have := (h.lt g hb).2
      injection h' with h'
      omega
theorem Blk.grow {B : Nat} {w w' : World} {v v' : Value} {b : Nat} {cs : List Value} (h : Blk w b cs) (ha : some b ≠ v.ownBlock) (k : Grow B v w v' w') : Blk w' b cs ∧ some b ≠ v'.ownBlock := by
  have e := k.by_.block b h.lt ha
  refine ⟨⟨Nat.lt_of_lt_of_le h.lt k.below.size, fun o ho => (World.cell?_of_block (w := w) (a := ⟨b, o, none⟩) e).trans (h.all o ho), fun o => (World.frozen?_of_block (w := w) (a := ⟨b, o, none⟩) e).trans (h.froz o)⟩, ?_⟩
  rcases k.blk with e' | e'
  · rw [e']; exact ha
  · rw [e']
    intro h'
    have := h.lt
    injection h' with h'
    omega
theorem Blk.apart {w : World} {B : Nat} {v : Value} {l : List Int} {b : Nat} (h : Own w B v l) (hb : w.heap.size ≤ b) : some b ≠ v.ownBlock := by
  intro h'
  have := (h.lt b h'.symm).2
  omega
theorem grow_wp {w : World} {ops : Array Oper} {rest : List Oper} {o : Oper} {a : Act} {Q : Exit → Act → World → Prop} (hgd : o.guard = none) (s x : Operand)
    (ho : o.op = .call { callee := .builtin .append, args := #[s, x], argTypes := #[32, 32] })
    (B : Nat) (v : Value) (l : List Int) (hs : a.eval s = v) (hown : Own w B v l) (u : Value) (r : List Int) (hx : a.eval x = u) (hr : Rd w u r) (hne : r ≠ []) (hlen : l.length + r.length ≤ 140737488355328) (hB : B ≤ w.heap.size)
    (h : ∀ v' w', Own w' B v' (l ++ r) → Grow B v w v' w' → wpList Tryz.prog ops Q rest (a.put o.dst v') w') : wpList Tryz.prog ops Q (o :: rest) a w := by
  obtain ⟨i0, hi, hz0, hz1, hz2⟩ := info_parts info8
  obtain ⟨ao, cap, rfl, h1, h2, hn, h3⟩ := hr
  obtain ⟨b, o', rfl, hat⟩ := h3.resolve_left hne
  have hp := List.length_pos_iff.2 hne
  refine wpList_append_lies w hgd s x 32 ho B 5 i0 (.int .u8 0) 1 1 Tryz.underlying32 hi hz0 hz1 hz2 rfl (by decide) v l.length (u8s l) hs hown ⟨b, o', none⟩ r.length cap (u8s r) hx (by rw [u8s_len, Nat.mul_one]) hat.news (u8s_one r) hp (by unfold maxLen; omega) (by omega) hB w.heap.size rfl ?_
  intro g cap' w' hown' hgrow hor hlt
  refine h _ w' ?_ ⟨(Below.refl B w).grown hgrow hB hown.row, hgrow, ?_⟩
  · unfold Own
    rw [List.length_append, ← u8s_app]
    exact hown'
  · rcases hor with e | e
    · exact Or.inl e.symm
    · right; rw [e]; rfl
end Go.Proofs.YtlpdhglibgnkoaaGreat
