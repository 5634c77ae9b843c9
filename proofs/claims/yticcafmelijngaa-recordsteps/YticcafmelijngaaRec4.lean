/-
  Layer 8 (record): what stands behind a record's kind: writeWhole, writeUpdate, writeNothing.
-/
import Derived.Test.YticcafmelijngaaRec2
import Derived.Test.YticcafmelijngaaRec3
namespace Go.Proofs.Yticcafmelijngaa
open Go.RowKit
set_option linter.unusedVariables false

theorem rec_writeNothing (w : World) (r : Rc) : Calls Try.prog 19 #[recV r] w fun e w' => ∃ v, e = .returned v ∧ Own w' w.heap.size v [] ∧ Below w.heap.size w w' := by
  go_enter Try.func19, Try.ntmps19
  go_wp2_with fail
  go_ret
  exact ⟨_, rfl, Own.nil _ _, (Below.refl _ _).alloc (Nat.le_refl _) _⟩
/-- The six numbers as cells. -/
theorem nums_at (r : Rc) (k : Nat) (h : k < 6) : (#[.int .i64 r.p0, .int .i64 r.p1, .int .i64 r.p2, .int .i64 r.v0, .int .i64 r.v1, .int .i64 r.v2] : Array Value)[k]? = some (.int .i64 ((nums r).getD k 0)) := by
  match k, h with
  | 0, _ => rfl
  | 1, _ => rfl
  | 2, _ => rfl
  | 3, _ => rfl
  | 4, _ => rfl
  | 5, _ => rfl
theorem size_i64 (w : World) : (sizeOf 2).run Try.prog w = .ok 1 w := by
  have h : (Try.prog.info? 2).map (·.size) = some 1 := by kernel_rfl
  cases hq : Try.prog.info? 2 with
  | none => simp [hq] at h
  | some i => simp [hq] at h; simp [sizeOf, typeInfo, hq, h]
theorem index6 (cs : Array Value) (k : Nat) (x : Int) (hk : k < 6) (h : cs[k]? = some (.int .i64 x)) (w : World) : (Instr.index 52 (.agg cs) (.int .i64 (k : Int))).run Try.prog w = .ok (.int .i64 x) w := by
  have hlt : (0 : Int) ≤ (k : Int) ∧ (k : Int) < 6 := by omega
  simp only [Instr.index, Sem.run_bind, run_underlying Try.underlying52, Result.andThen_ok, asIntOf, Sem.run_pure]
  rw [if_pos (by exact hlt)]
  simp only [Sem.run_bind, size_i64, Result.andThen_ok, Int.toNat_natCast, Nat.mul_one, part, isAgg, run_underlying Try.underlying2, Sem.run_pure]
  simp [h]
theorem num_letter (r : Rc) : ∃ cs : Array Value, numV r = .agg cs ∧ cs.size = 6 ∧ ∀ k, k < 6 → cs[k]? = some (.int .i64 ((nums r).getD k 0)) := ⟨_, rfl, rfl, nums_at r⟩
set_option maxRecDepth 8000 in
set_option maxHeartbeats 1000000 in
theorem rec_writeWhole (w : World) (r : Rc) (ok : r.ok) : Calls Try.prog 13 #[recV r] w fun e w' => ∃ v, e = .returned v ∧ Own w' w.heap.size v (wholeB r) ∧ Below w.heap.size w w' := by
  have OK : Hid r.ok := ok
  clear ok
  go_enter Try.func13, Try.ntmps13
  go_wp2_with fail
  generalize hW : w.alloc (.cells (recA r) 29) = W
  obtain ⟨A0, B0, Z0⟩ := boxed hW
  clear hW
  refine (rec_signed _ r).mono ?_; rintro e w1 ⟨rfl, b1⟩
  obtain ⟨cs, hcs, sz, hat⟩ := num_letter r
  have HCS : Hid (∀ k, k < 6 → cs[k]? = some (.int .i64 ((nums r).getD k 0))) := hat
  have B1 := bthen B0 b1
  have A1 := A0.below b1 (by omega)
  have z1 := b1.size
  have B1' : Hid (Below w.heap.size w w1) := B1
  rw [hcs]
  clear hcs hat A0 B0 b1 B1
  go_wp2_with fail
  go_loopw [8, 3] (fun i v wr => ∃ k : Nat, k ≤ 6 ∧ i = .int .i64 k ∧ Own wr w1.heap.size v (zs ((nums r).take k)) ∧ Below w1.heap.size w1 wr) (fun i _ _ => 6 - (intOf i).toNat)
  case atStart => exact ⟨0, by omega, rfl, Own.nil _ _, Below.refl _ _⟩
  case round =>
    obtain ⟨k, hk, rfl, hown, hbl⟩ := hrel
    have HO : Hid (Own wr w1.heap.size u3 (zs ((nums r).take k))) := hown
    have HL : (zs ((nums r).take k)).length ≤ 60 := by
      have h1 := zs_len ((nums r).take k) (fun n hn => OK.out.nums n (List.mem_of_mem_take hn))
      have h2 : ((nums r).take k).length ≤ k := List.length_take_le _ _
      omega
    clear hown
    by_cases hlt : k < 6
    · have hx0 := HCS.out k hlt
      have bx := OK.out.nums _ (getD_mem (k := k) (by rw [nums_len]; exact hlt))
      have HE : Hid (zs ((nums r).take (k + 1)) = zs ((nums r).take k) ++ put (zig ((nums r).getD k 0))) := zs_snoc (nums r) k (by rw [nums_len]; exact hlt)
      obtain ⟨x, hxx⟩ : ∃ x, (nums r).getD k 0 = x := ⟨_, rfl⟩
      rw [hxx] at hx0 bx HE
      clear hxx
      have hx := index6 cs k x hlt hx0 wr
      clear hx0
      have bz := zig_bd bx
      go_wp2_with fail
      refine (zig_any x bx _).mono ?_; rintro e w2 ⟨rfl, rfl⟩
      obtain ⟨z, hz⟩ : ∃ z, zig x = z := ⟨_, rfl⟩
      rw [hz] at bz HE
      rw [hz]
      clear hz
      obtain ⟨z0, z1'⟩ := bz
      go_wp2_with fail
      refine (put_any z z0 z1' _).mono ?_; rintro e w3 ⟨u, rfl, own3, b3⟩
      have O3 := Own.below HO.out b3
      have l3 := put_ten z0 z1'
      have s1 := hbl.size
      have s2 := b3.size
      go_wp2_with (at_builtin; refine app_wp rfl _ _ rfl w1.heap.size _ (zs ((nums r).take k)) rfl (by exact O3) _ (put z) rfl (by exact own3.rd) (by omega) (by omega) ?_; intro u4 w4 own4 b4)
      go_roundw
      case rel => exact ⟨k + 1, by omega, by go_num, by rw [HE.out]; exact own4, (bup hbl (Nat.le_refl _) b3).trans b4⟩
      case measure => simp [intOf]; omega
    · obtain rfl : k = 6 := by omega
      have A2 := A1.below hbl (by omega)
      have x8 := A2.cell 8 _ rfl
      have l2 := A2.lt
      have ba := OK.out.a
      have E6 : Hid (zs ((nums r).take 6) = zs (nums r)) := rfl
      obtain ⟨a0, a1⟩ := ba
      go_wp2_with fail
      refine (put_any r.a a0 (by omega) _).mono ?_; rintro e w3 ⟨u, rfl, own3, b3⟩
      have O3 := Own.below HO.out b3
      have l3 := put_ten a0 (by omega)
      have s1 := hbl.size
      have s2 := b3.size
      go_wp2_with (at_builtin; refine app_wp rfl _ _ rfl w1.heap.size _ (zs ((nums r).take 6)) rfl (by exact O3) _ (put r.a) rfl (by exact own3.rd) (by omega) (by omega) ?_; intro u4 w4 own4 b4)
      go_ret
      exact ⟨_, rfl, own4.mono (by omega), (bup (bup B1'.out (Nat.le_refl _) hbl) (Nat.le_refl _) b3).trans (b4.mono (by omega))⟩
end Go.Proofs.Yticcafmelijngaa
