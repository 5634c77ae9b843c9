/-
  Layer 6 (crc): Open, by the code and by the document.
-/
import Derived.Test.YthofloblheodbaaCrc5
import Derived.Test.YthofloblheodbaaReg
namespace Go.Proofs.Ythofloblheodbaa
open Go.RowKit
set_option maxRecDepth 20000
/-- Whether bytes are opened. -/
def openB (l : List Int) : Bool := decide (4 ≤ l.length) && decide (l.drop (l.length - 4) = four (sum (l.take (l.length - 4))))
/-- What is opened. -/
def opened (l : List Int) : List Int := if openB l then l.take (l.length - 4) else []
theorem open_few {l : List Int} (h : l.length < 4) : openB l = false := by unfold openB; simp; omega
theorem open_is {l : List Int} {m : Nat} (h : l.length = m + 4) : openB l = decide (l.drop m = four (sum (l.take m))) := by
  unfold openB; rw [h, Nat.add_sub_cancel]; simp
theorem opened_no {l : List Int} (h : openB l = false) : opened l = [] := by unfold opened; rw [h]; rfl
theorem opened_yes {l : List Int} {m : Nat} (hl : l.length = m + 4) (h : openB l = true) : opened l = l.take m := by unfold opened; rw [h, hl, Nat.add_sub_cancel]; rfl
set_option maxHeartbeats 400000 in
theorem open_few_any (w : World) (v : Value) (l : List Int) (h : Rd w v l) (hf : l.length < 4) :
    Calls Try.prog 14 #[v] w fun e w' => e = .returned (.tuple #[.slice none 0 0, .bool false]) ∧ Below w.heap.size w w' := by
  obtain ⟨ao, cap, rfl, hc, hm, hz, h3⟩ := h
  obtain ⟨n, hn⟩ : ∃ n, l.length = n := ⟨_, rfl⟩
  rw [hn] at hc hf ⊢
  clear h3 hz hn
  have hd : decide ((n : Int) - 4 < 0) = true := by simp; omega
  go_enter Try.func14, Try.ntmps14
  go_wp2_with fail
  refine wp_region_any (by kernel_rfl) ?_
  change wpAny _ _ _ _ _ _ _ (World.drew _)
  refine take_to (i := 0) (d := some 8) (v := .int .i64 ((n : Int) - 4)) rfl rfl (by kernel_rfl) (by kernel_rfl) (by kernel_rfl) (fun _ _ _ h => h) (Or.inl ⟨by rfl, fun w => by go_simp⟩) ?_
  simp only [Act.put, List.setIfInBounds_toArray, List.set_cons_zero, List.set_cons_succ]
  refine take_to (i := 1) (d := some 9) (v := .bool true) rfl rfl (by kernel_rfl) (by kernel_rfl) (by kernel_rfl) (fun _ _ _ h => h) (Or.inl ⟨by rfl, fun w => by go_simp⟩) ?_
  simp only [Act.put, List.setIfInBounds_toArray, List.set_cons_zero, List.set_cons_succ]
  refine take_to (i := 2) (d := some 10) (v := .bool true) rfl rfl (by kernel_rfl) (by kernel_rfl) (by kernel_rfl) (fun _ _ _ h => h) (Or.inl ⟨by rfl, fun w => by go_simp⟩) ?_
  simp only [Act.put, List.setIfInBounds_toArray, List.set_cons_zero, List.set_cons_succ]
  refine take_to (i := 3) (d := some 11) (v := undef) rfl rfl (by kernel_rfl) (by kernel_rfl) (by kernel_rfl) (fun _ _ _ h => h) (Or.inr ⟨by rfl, rfl⟩) ?_
  simp only [Act.put, List.setIfInBounds_toArray, List.set_cons_zero, List.set_cons_succ]
  refine take_to (i := 4) (d := some 12) (v := undef) rfl rfl (by kernel_rfl) (by kernel_rfl) (by kernel_rfl) (fun _ _ _ h => h) (Or.inr ⟨by rfl, rfl⟩) ?_
  simp only [Act.put, List.setIfInBounds_toArray, List.set_cons_zero, List.set_cons_succ]
  refine take_to (i := 5) (d := some 13) (v := undef) rfl rfl (by kernel_rfl) (by kernel_rfl) (by kernel_rfl) (fun _ _ _ h => h) (Or.inr ⟨by rfl, rfl⟩) ?_
  simp only [Act.put, List.setIfInBounds_toArray, List.set_cons_zero, List.set_cons_succ]
  refine take_to (i := 6) (d := some 14) (v := undef) rfl rfl (by kernel_rfl) (by kernel_rfl) (by kernel_rfl) (fun _ _ _ h => h) (Or.inr ⟨by rfl, rfl⟩) ?_
  simp only [Act.put, List.setIfInBounds_toArray, List.set_cons_zero, List.set_cons_succ]
  refine take_to (i := 7) (d := some 15) (v := undef) rfl rfl (by kernel_rfl) (by kernel_rfl) (by kernel_rfl) (fun _ _ _ h => h) (Or.inr ⟨by rfl, rfl⟩) ?_
  simp only [Act.put, List.setIfInBounds_toArray, List.set_cons_zero, List.set_cons_succ]
  refine take_to (i := 8) (d := some 16) (v := undef) rfl rfl (by kernel_rfl) (by kernel_rfl) (by kernel_rfl) (fun _ _ _ h => h) (Or.inr ⟨by rfl, rfl⟩) ?_
  simp only [Act.put, List.setIfInBounds_toArray, List.set_cons_zero, List.set_cons_succ]
  refine take_to (i := 9) (d := some 17) (v := undef) rfl rfl (by kernel_rfl) (by kernel_rfl) (by kernel_rfl) (fun _ _ _ h => h) (Or.inr ⟨by rfl, rfl⟩) ?_
  simp only [Act.put, List.setIfInBounds_toArray, List.set_cons_zero, List.set_cons_succ]
  refine take_to (i := 10) (d := some 18) (v := undef) rfl rfl (by kernel_rfl) (by kernel_rfl) (by kernel_rfl) (fun _ _ _ h => h) (Or.inr ⟨by rfl, rfl⟩) ?_
  simp only [Act.put, List.setIfInBounds_toArray, List.set_cons_zero, List.set_cons_succ]
  refine take_to (i := 11) (d := some 19) (v := undef) rfl rfl (by kernel_rfl) (by kernel_rfl) (by kernel_rfl) (fun _ _ _ h => h) (Or.inr ⟨by rfl, rfl⟩) ?_
  simp only [Act.put, List.setIfInBounds_toArray, List.set_cons_zero, List.set_cons_succ]
  refine take_to (i := 12) (d := some 20) (v := .bool true) rfl rfl (by kernel_rfl) (by kernel_rfl) (by kernel_rfl) (fun _ _ _ h => h) (Or.inl ⟨by rfl, fun w => by go_simp⟩) ?_
  simp only [Act.put, List.setIfInBounds_toArray, List.set_cons_zero, List.set_cons_succ]
  refine wpAny_done (by kernel_rfl) ?_ _
  go_wp2_with fail
  go_ret2
  exact ⟨rfl, (Below.refl _ _).drew⟩
set_option maxHeartbeats 400000 in
theorem ropen_few_any (w : World) (v : Value) (l : List Int) (h : Rd w v l) (hf : l.length < 4) :
    Calls Try.prog 15 #[v] w fun e w' => e = .returned (.tuple #[.slice none 0 0, .bool false]) ∧ Below w.heap.size w w' := by
  obtain ⟨ao, cap, rfl, hc, hm, hz, h3⟩ := h
  obtain ⟨n, hn⟩ : ∃ n, l.length = n := ⟨_, rfl⟩
  rw [hn] at hc hf ⊢
  clear h3 hz hn
  have hd : decide ((n : Int) - 4 < 0) = true := by simp; omega
  go_enter Try.func15, Try.ntmps15
  go_wp2_with fail
  refine wp_region_any (by kernel_rfl) ?_
  change wpAny _ _ _ _ _ _ _ (World.drew _)
  refine take_to (i := 0) (d := some 8) (v := .int .i64 ((n : Int) - 4)) rfl rfl (by kernel_rfl) (by kernel_rfl) (by kernel_rfl) (fun _ _ _ h => h) (Or.inl ⟨by rfl, fun w => by go_simp⟩) ?_
  simp only [Act.put, List.setIfInBounds_toArray, List.set_cons_zero, List.set_cons_succ]
  refine take_to (i := 1) (d := some 9) (v := .bool true) rfl rfl (by kernel_rfl) (by kernel_rfl) (by kernel_rfl) (fun _ _ _ h => h) (Or.inl ⟨by rfl, fun w => by go_simp⟩) ?_
  simp only [Act.put, List.setIfInBounds_toArray, List.set_cons_zero, List.set_cons_succ]
  refine take_to (i := 2) (d := some 10) (v := .bool true) rfl rfl (by kernel_rfl) (by kernel_rfl) (by kernel_rfl) (fun _ _ _ h => h) (Or.inl ⟨by rfl, fun w => by go_simp⟩) ?_
  simp only [Act.put, List.setIfInBounds_toArray, List.set_cons_zero, List.set_cons_succ]
  refine take_to (i := 3) (d := some 11) (v := undef) rfl rfl (by kernel_rfl) (by kernel_rfl) (by kernel_rfl) (fun _ _ _ h => h) (Or.inr ⟨by rfl, rfl⟩) ?_
  simp only [Act.put, List.setIfInBounds_toArray, List.set_cons_zero, List.set_cons_succ]
  refine take_to (i := 4) (d := some 12) (v := undef) rfl rfl (by kernel_rfl) (by kernel_rfl) (by kernel_rfl) (fun _ _ _ h => h) (Or.inr ⟨by rfl, rfl⟩) ?_
  simp only [Act.put, List.setIfInBounds_toArray, List.set_cons_zero, List.set_cons_succ]
  refine take_to (i := 5) (d := some 13) (v := undef) rfl rfl (by kernel_rfl) (by kernel_rfl) (by kernel_rfl) (fun _ _ _ h => h) (Or.inr ⟨by rfl, rfl⟩) ?_
  simp only [Act.put, List.setIfInBounds_toArray, List.set_cons_zero, List.set_cons_succ]
  refine take_to (i := 6) (d := some 14) (v := undef) rfl rfl (by kernel_rfl) (by kernel_rfl) (by kernel_rfl) (fun _ _ _ h => h) (Or.inr ⟨by rfl, rfl⟩) ?_
  simp only [Act.put, List.setIfInBounds_toArray, List.set_cons_zero, List.set_cons_succ]
  refine take_to (i := 7) (d := some 15) (v := undef) rfl rfl (by kernel_rfl) (by kernel_rfl) (by kernel_rfl) (fun _ _ _ h => h) (Or.inr ⟨by rfl, rfl⟩) ?_
  simp only [Act.put, List.setIfInBounds_toArray, List.set_cons_zero, List.set_cons_succ]
  refine take_to (i := 8) (d := some 16) (v := undef) rfl rfl (by kernel_rfl) (by kernel_rfl) (by kernel_rfl) (fun _ _ _ h => h) (Or.inr ⟨by rfl, rfl⟩) ?_
  simp only [Act.put, List.setIfInBounds_toArray, List.set_cons_zero, List.set_cons_succ]
  refine take_to (i := 9) (d := some 17) (v := undef) rfl rfl (by kernel_rfl) (by kernel_rfl) (by kernel_rfl) (fun _ _ _ h => h) (Or.inr ⟨by rfl, rfl⟩) ?_
  simp only [Act.put, List.setIfInBounds_toArray, List.set_cons_zero, List.set_cons_succ]
  refine take_to (i := 10) (d := some 18) (v := undef) rfl rfl (by kernel_rfl) (by kernel_rfl) (by kernel_rfl) (fun _ _ _ h => h) (Or.inr ⟨by rfl, rfl⟩) ?_
  simp only [Act.put, List.setIfInBounds_toArray, List.set_cons_zero, List.set_cons_succ]
  refine take_to (i := 11) (d := some 19) (v := .bool true) rfl rfl (by kernel_rfl) (by kernel_rfl) (by kernel_rfl) (fun _ _ _ h => h) (Or.inl ⟨by rfl, fun w => by go_simp⟩) ?_
  simp only [Act.put, List.setIfInBounds_toArray, List.set_cons_zero, List.set_cons_succ]
  refine wpAny_done (by kernel_rfl) ?_ _
  go_wp2_with fail
  go_ret2
  exact ⟨rfl, (Below.refl _ _).drew⟩
set_option maxHeartbeats 400000 in
theorem open_yes_any (w : World) (b o cap m : Nat) (l : List Int) (hb : Bytes l) (h : At w b o l) (hn : l.length = m + 4) (hc : m + 4 ≤ cap) (hm : cap ≤ 9223372036854775807) (hlen : m + 4 ≤ 140737488355328) (hq : openB l = true) :
    Calls Try.prog 14 #[.slice (some ⟨b, o, none⟩) (m + 4) cap] w fun e w' => ∃ u, e = .returned (.tuple #[u, .bool true]) ∧ Own w' w.heap.size u (opened l) ∧ Below w.heap.size w w' := by
  have hd : decide ((m : Int) < 0) = false := by simp
  have i1 : (0 : Int) ≤ (m : Int) := by omega
  have i2 : (m : Int) ≤ (m : Int) + 4 := by omega
  have i3 : (m : Int) ≤ (cap : Int) := by omega
  have i4 : m ≤ cap := by omega
  have i5 : m ≤ m + 4 := by omega
  have i6 : ¬ cap = m := by omega
  have hA := h.take m
  have hD := h.drop m
  have R0 : Hid (Rd w.drew (.slice (some ⟨b, o, none⟩) (m + 4) cap) l) := by
    have := Rd.at (w := w.drew) (cap := cap) h (by omega) hm
    rwa [hn] at this
  have R1 : Hid (Rd w.drew (.slice (some ⟨b, o, none⟩) m cap) (l.take m)) := by
    have := Rd.at (w := w.drew) (cap := cap) hA (by rw [List.length_take]; omega) hm
    rwa [List.length_take, Nat.min_eq_left (by omega)] at this
  have R2 : Hid (Rd w.drew (.slice (some ⟨b, o + m, none⟩) 4 (cap - m)) (l.drop m)) := by
    have := Rd.at (w := w.drew) (cap := cap - m) hD (by rw [List.length_drop]; omega) (by omega)
    rwa [List.length_drop, hn, Nat.add_sub_cancel_left] at this
  have B0 : Hid (Bytes l) := hb
  have B1 : Hid (Bytes (l.take m)) := hb.take m
  have B2 : Hid (Bytes (l.drop m)) := hb.drop m
  have HL : Hid ((l.take m).length = m) := by
    have : (l.take m).length = m := by rw [List.length_take]; omega
    exact this
  have HQ := (show Hid _ from open_is hn)
  have HY := (show Hid _ from fun h => opened_yes hn h)
  clear hA hD hb h hn
  have HD : Hid (decide (l.drop m = four (sum (l.take m))) = true) := HQ.out.symm.trans hq
  have HO := (show Hid _ from HY.out hq)
  clear HQ HY hq
  go_enter Try.func14, Try.ntmps14
  go_wp2_with fail
  refine wp_region_any (by kernel_rfl) ?_
  change wpAny _ _ _ _ _ _ _ (World.drew _)
  refine take_to (i := 0) (d := some 8) (v := .int .i64 (m : Int)) rfl rfl (by kernel_rfl) (by kernel_rfl) (by kernel_rfl) (fun _ _ _ h => h) (Or.inl ⟨by rfl, fun w => by go_simp⟩) ?_
  simp only [Act.put, List.setIfInBounds_toArray, List.set_cons_zero, List.set_cons_succ]
  refine take_to (i := 1) (d := some 9) (v := .bool false) rfl rfl (by kernel_rfl) (by kernel_rfl) (by kernel_rfl) (fun _ _ _ h => h) (Or.inl ⟨by rfl, fun w => by go_simp⟩) ?_
  simp only [Act.put, List.setIfInBounds_toArray, List.set_cons_zero, List.set_cons_succ]
  refine take_to (i := 2) (d := some 10) (v := .bool false) rfl rfl (by kernel_rfl) (by kernel_rfl) (by kernel_rfl) (fun _ _ _ h => h) (Or.inl ⟨by rfl, fun w => by go_simp⟩) ?_
  simp only [Act.put, List.setIfInBounds_toArray, List.set_cons_zero, List.set_cons_succ]
  refine take_to (i := 3) (d := some 11) (v := .slice (some ⟨b, o, none⟩) (m + 4) cap) rfl rfl (by kernel_rfl) (by kernel_rfl) (by kernel_rfl) (fun _ _ _ h => h) (Or.inl ⟨by rfl, fun w => by go_simp⟩) ?_
  simp only [Act.put, List.setIfInBounds_toArray, List.set_cons_zero, List.set_cons_succ]
  refine take_to (i := 4) (d := some 12) (v := .int .i64 (m : Int)) rfl rfl (by kernel_rfl) (by kernel_rfl) (by kernel_rfl) (fun _ _ _ h => h) (Or.inl ⟨by rfl, fun w => by go_simp⟩) ?_
  simp only [Act.put, List.setIfInBounds_toArray, List.set_cons_zero, List.set_cons_succ]
  refine take_to (i := 5) (d := some 13) (v := .slice (some ⟨b, o + m, none⟩) 4 (cap - m)) rfl rfl (by kernel_rfl) (by kernel_rfl) (by kernel_rfl) (fun _ _ _ h => h) (Or.inl ⟨by rfl, fun w => by go_simp⟩) ?_
  simp only [Act.put, List.setIfInBounds_toArray, List.set_cons_zero, List.set_cons_succ]
  refine take_to (i := 6) (d := some 14) (v := .slice (some ⟨b, o, none⟩) (m + 4) cap) rfl rfl (by kernel_rfl) (by kernel_rfl) (by kernel_rfl) (fun _ _ _ h => h) (Or.inl ⟨by rfl, fun w => by go_simp⟩) ?_
  simp only [Act.put, List.setIfInBounds_toArray, List.set_cons_zero, List.set_cons_succ]
  refine take_to (i := 7) (d := some 15) (v := .int .i64 (m : Int)) rfl rfl (by kernel_rfl) (by kernel_rfl) (by kernel_rfl) (fun _ _ _ h => h) (Or.inl ⟨by rfl, fun w => by go_simp⟩) ?_
  simp only [Act.put, List.setIfInBounds_toArray, List.set_cons_zero, List.set_cons_succ]
  refine take_to (i := 8) (d := some 16) (v := .slice (some ⟨b, o, none⟩) m cap) rfl rfl (by kernel_rfl) (by kernel_rfl) (by kernel_rfl) (fun _ _ _ h => h) (Or.inl ⟨by rfl, fun w => by go_simp⟩) ?_
  simp only [Act.put, List.setIfInBounds_toArray, List.set_cons_zero, List.set_cons_succ]
  refine wpAny_ready (rs := [9]) (by kernel_rfl) (by simp) ?_
  refine AllReady.cons rfl (fun K hK => ?_) AllReady.nil
  go_simp
  go_wp2_with (go_at_call 19; (with_reducible refine (bytesOf_any _ _ (l.take m) B1.out R1.out).mono ?_); rintro e w1 ⟨u, rfl, own1, b1⟩; have r1 := own1.rd; have r2 := R2.out.below b1; have r3 := R1.out.below b1; clear own1)
  refine wpAny_ready (rs := [10]) (by kernel_rfl) (by simp) ?_
  refine AllReady.cons rfl (fun K hK => ?_) AllReady.nil
  go_simp
  go_wp2_with (go_at_call 20; (with_reducible refine (equal_any _ _ (l.drop m) r2 _ (four (sum (l.take m))) r1 B2.out (four_ok _)).mono ?_); rw [HD.out]; rintro e w2 ⟨rfl, rfl⟩)
  refine take_to (i := 11) (d := some 19) (v := .bool false) rfl rfl (by kernel_rfl) (by kernel_rfl) (by kernel_rfl) (fun _ _ _ h => h) (Or.inl ⟨by rfl, fun w => by go_simp⟩) ?_
  simp only [Act.put, List.setIfInBounds_toArray, List.set_cons_zero, List.set_cons_succ]
  refine take_to (i := 12) (d := some 20) (v := .bool false) rfl rfl (by kernel_rfl) (by kernel_rfl) (by kernel_rfl) (fun _ _ _ h => h) (Or.inl ⟨by rfl, fun w => by go_simp⟩) ?_
  simp only [Act.put, List.setIfInBounds_toArray, List.set_cons_zero, List.set_cons_succ]
  refine wpAny_done (by kernel_rfl) ?_ _
  go_wp2_with fail
  refine (clone_any _ _ (l.take m) r3 (by rw [HL.out]; omega)).mono ?_; rintro e w3 ⟨u3, rfl, own3, b3⟩
  go_wp2_with fail
  go_ret2
  have bb : Below w.heap.size w w2 := (Below.refl _ w).drew.trans b1
  exact ⟨_, rfl, by rw [HO.out]; exact own3.mono bb.size, bup bb (Nat.le_refl _) b3⟩
set_option maxHeartbeats 400000 in
theorem open_no_any (w : World) (b o cap m : Nat) (l : List Int) (hb : Bytes l) (h : At w b o l) (hn : l.length = m + 4) (hc : m + 4 ≤ cap) (hm : cap ≤ 9223372036854775807) (hlen : m + 4 ≤ 140737488355328) (hq : openB l = false) :
    Calls Try.prog 14 #[.slice (some ⟨b, o, none⟩) (m + 4) cap] w fun e w' => ∃ u, e = .returned (.tuple #[u, .bool false]) ∧ Own w' w.heap.size u (opened l) ∧ Below w.heap.size w w' := by
  have hd : decide ((m : Int) < 0) = false := by simp
  have i1 : (0 : Int) ≤ (m : Int) := by omega
  have i2 : (m : Int) ≤ (m : Int) + 4 := by omega
  have i3 : (m : Int) ≤ (cap : Int) := by omega
  have i4 : m ≤ cap := by omega
  have i5 : m ≤ m + 4 := by omega
  have i6 : ¬ cap = m := by omega
  have hA := h.take m
  have hD := h.drop m
  have R0 : Hid (Rd w.drew (.slice (some ⟨b, o, none⟩) (m + 4) cap) l) := by
    have := Rd.at (w := w.drew) (cap := cap) h (by omega) hm
    rwa [hn] at this
  have R1 : Hid (Rd w.drew (.slice (some ⟨b, o, none⟩) m cap) (l.take m)) := by
    have := Rd.at (w := w.drew) (cap := cap) hA (by rw [List.length_take]; omega) hm
    rwa [List.length_take, Nat.min_eq_left (by omega)] at this
  have R2 : Hid (Rd w.drew (.slice (some ⟨b, o + m, none⟩) 4 (cap - m)) (l.drop m)) := by
    have := Rd.at (w := w.drew) (cap := cap - m) hD (by rw [List.length_drop]; omega) (by omega)
    rwa [List.length_drop, hn, Nat.add_sub_cancel_left] at this
  have B0 : Hid (Bytes l) := hb
  have B1 : Hid (Bytes (l.take m)) := hb.take m
  have B2 : Hid (Bytes (l.drop m)) := hb.drop m
  have HL : Hid ((l.take m).length = m) := by
    have : (l.take m).length = m := by rw [List.length_take]; omega
    exact this
  have HQ := (show Hid _ from open_is hn)
  have HY := (show Hid _ from fun h => opened_yes hn h)
  clear hA hD hb h hn
  have HD : Hid (decide (l.drop m = four (sum (l.take m))) = false) := HQ.out.symm.trans hq
  have HO := (show Hid _ from opened_no hq)
  clear HQ HY hq
  go_enter Try.func14, Try.ntmps14
  go_wp2_with fail
  refine wp_region_any (by kernel_rfl) ?_
  change wpAny _ _ _ _ _ _ _ (World.drew _)
  refine take_to (i := 0) (d := some 8) (v := .int .i64 (m : Int)) rfl rfl (by kernel_rfl) (by kernel_rfl) (by kernel_rfl) (fun _ _ _ h => h) (Or.inl ⟨by rfl, fun w => by go_simp⟩) ?_
  simp only [Act.put, List.setIfInBounds_toArray, List.set_cons_zero, List.set_cons_succ]
  refine take_to (i := 1) (d := some 9) (v := .bool false) rfl rfl (by kernel_rfl) (by kernel_rfl) (by kernel_rfl) (fun _ _ _ h => h) (Or.inl ⟨by rfl, fun w => by go_simp⟩) ?_
  simp only [Act.put, List.setIfInBounds_toArray, List.set_cons_zero, List.set_cons_succ]
  refine take_to (i := 2) (d := some 10) (v := .bool false) rfl rfl (by kernel_rfl) (by kernel_rfl) (by kernel_rfl) (fun _ _ _ h => h) (Or.inl ⟨by rfl, fun w => by go_simp⟩) ?_
  simp only [Act.put, List.setIfInBounds_toArray, List.set_cons_zero, List.set_cons_succ]
  refine take_to (i := 3) (d := some 11) (v := .slice (some ⟨b, o, none⟩) (m + 4) cap) rfl rfl (by kernel_rfl) (by kernel_rfl) (by kernel_rfl) (fun _ _ _ h => h) (Or.inl ⟨by rfl, fun w => by go_simp⟩) ?_
  simp only [Act.put, List.setIfInBounds_toArray, List.set_cons_zero, List.set_cons_succ]
  refine take_to (i := 4) (d := some 12) (v := .int .i64 (m : Int)) rfl rfl (by kernel_rfl) (by kernel_rfl) (by kernel_rfl) (fun _ _ _ h => h) (Or.inl ⟨by rfl, fun w => by go_simp⟩) ?_
  simp only [Act.put, List.setIfInBounds_toArray, List.set_cons_zero, List.set_cons_succ]
  refine take_to (i := 5) (d := some 13) (v := .slice (some ⟨b, o + m, none⟩) 4 (cap - m)) rfl rfl (by kernel_rfl) (by kernel_rfl) (by kernel_rfl) (fun _ _ _ h => h) (Or.inl ⟨by rfl, fun w => by go_simp⟩) ?_
  simp only [Act.put, List.setIfInBounds_toArray, List.set_cons_zero, List.set_cons_succ]
  refine take_to (i := 6) (d := some 14) (v := .slice (some ⟨b, o, none⟩) (m + 4) cap) rfl rfl (by kernel_rfl) (by kernel_rfl) (by kernel_rfl) (fun _ _ _ h => h) (Or.inl ⟨by rfl, fun w => by go_simp⟩) ?_
  simp only [Act.put, List.setIfInBounds_toArray, List.set_cons_zero, List.set_cons_succ]
  refine take_to (i := 7) (d := some 15) (v := .int .i64 (m : Int)) rfl rfl (by kernel_rfl) (by kernel_rfl) (by kernel_rfl) (fun _ _ _ h => h) (Or.inl ⟨by rfl, fun w => by go_simp⟩) ?_
  simp only [Act.put, List.setIfInBounds_toArray, List.set_cons_zero, List.set_cons_succ]
  refine take_to (i := 8) (d := some 16) (v := .slice (some ⟨b, o, none⟩) m cap) rfl rfl (by kernel_rfl) (by kernel_rfl) (by kernel_rfl) (fun _ _ _ h => h) (Or.inl ⟨by rfl, fun w => by go_simp⟩) ?_
  simp only [Act.put, List.setIfInBounds_toArray, List.set_cons_zero, List.set_cons_succ]
  refine wpAny_ready (rs := [9]) (by kernel_rfl) (by simp) ?_
  refine AllReady.cons rfl (fun K hK => ?_) AllReady.nil
  go_simp
  go_wp2_with (go_at_call 19; (with_reducible refine (bytesOf_any _ _ (l.take m) B1.out R1.out).mono ?_); rintro e w1 ⟨u, rfl, own1, b1⟩; have r1 := own1.rd; have r2 := R2.out.below b1; have r3 := R1.out.below b1; clear own1)
  refine wpAny_ready (rs := [10]) (by kernel_rfl) (by simp) ?_
  refine AllReady.cons rfl (fun K hK => ?_) AllReady.nil
  go_simp
  go_wp2_with (go_at_call 20; (with_reducible refine (equal_any _ _ (l.drop m) r2 _ (four (sum (l.take m))) r1 B2.out (four_ok _)).mono ?_); rw [HD.out]; rintro e w2 ⟨rfl, rfl⟩)
  refine take_to (i := 11) (d := some 19) (v := .bool true) rfl rfl (by kernel_rfl) (by kernel_rfl) (by kernel_rfl) (fun _ _ _ h => h) (Or.inl ⟨by rfl, fun w => by go_simp⟩) ?_
  simp only [Act.put, List.setIfInBounds_toArray, List.set_cons_zero, List.set_cons_succ]
  refine take_to (i := 12) (d := some 20) (v := .bool true) rfl rfl (by kernel_rfl) (by kernel_rfl) (by kernel_rfl) (fun _ _ _ h => h) (Or.inl ⟨by rfl, fun w => by go_simp⟩) ?_
  simp only [Act.put, List.setIfInBounds_toArray, List.set_cons_zero, List.set_cons_succ]
  refine wpAny_done (by kernel_rfl) ?_ _
  go_wp2_with fail
  go_ret2
  exact ⟨_, rfl, by rw [HO.out]; exact Own.nil _ _, (Below.refl _ w).drew.trans b1⟩
theorem open_app {l : List Int} {m : Nat} (h : l.length = m + 4) : (openB l = true) ↔ l.take m ++ four (sum (l.take m)) = l := by
  rw [open_is h, decide_eq_true_eq]
  constructor
  · intro e; rw [← e, List.take_append_drop]
  · intro e
    have := congrArg (List.drop m) e
    rw [List.drop_append_of_le_length (by rw [List.length_take]; omega), List.drop_of_length_le (by rw [List.length_take]; omega), List.nil_append] at this
    exact this.symm
set_option maxHeartbeats 400000 in
theorem ropen_yes_any (w : World) (b o cap m : Nat) (l : List Int) (hb : Bytes l) (h : At w b o l) (hn : l.length = m + 4) (hc : m + 4 ≤ cap) (hm : cap ≤ 9223372036854775807) (hlen : m + 4 ≤ 140737488355328) (hq : openB l = true) :
    Calls Try.prog 15 #[.slice (some ⟨b, o, none⟩) (m + 4) cap] w fun e w' => ∃ u, e = .returned (.tuple #[u, .bool true]) ∧ Own w' w.heap.size u (opened l) ∧ Below w.heap.size w w' := by
  have hd : decide ((m : Int) < 0) = false := by simp
  have i1 : (0 : Int) ≤ (m : Int) := by omega
  have i2 : (m : Int) ≤ (m : Int) + 4 := by omega
  have i3 : (m : Int) ≤ (cap : Int) := by omega
  have i4 : m ≤ cap := by omega
  have i5 : m ≤ m + 4 := by omega
  have i6 : ¬ cap = m := by omega
  have hA := h.take m
  have hD := h.drop m
  have R0 : Hid (Rd w.drew (.slice (some ⟨b, o, none⟩) (m + 4) cap) l) := by
    have := Rd.at (w := w.drew) (cap := cap) h (by omega) hm
    rwa [hn] at this
  have R1 : Hid (Rd w.drew (.slice (some ⟨b, o, none⟩) m cap) (l.take m)) := by
    have := Rd.at (w := w.drew) (cap := cap) hA (by rw [List.length_take]; omega) hm
    rwa [List.length_take, Nat.min_eq_left (by omega)] at this
  have R2 : Hid (Rd w.drew (.slice (some ⟨b, o + m, none⟩) 4 (cap - m)) (l.drop m)) := by
    have := Rd.at (w := w.drew) (cap := cap - m) hD (by rw [List.length_drop]; omega) (by omega)
    rwa [List.length_drop, hn, Nat.add_sub_cancel_left] at this
  have B0 : Hid (Bytes l) := hb
  have B1 : Hid (Bytes (l.take m)) := hb.take m
  have B2 : Hid (Bytes (l.drop m)) := hb.drop m
  have HL : Hid ((l.take m).length = m) := by
    have : (l.take m).length = m := by rw [List.length_take]; omega
    exact this
  have HQ := (show Hid _ from open_is hn)
  have HY := (show Hid _ from fun h => opened_yes hn h)
  have he := (open_app hn).1 hq
  clear hA hD hb h hn
  obtain ⟨s, hs⟩ : ∃ s, strOfNums l = s := ⟨_, rfl⟩
  have HS2 : Hid (strOfNums l = s) := hs
  have HS1 : Hid (strOfNums (l.take m ++ four (sum (l.take m))) = s) := by rw [he]; exact hs
  have HO := (show Hid _ from HY.out hq)
  clear HQ HY hq hs he
  have t2 := str_run R0.out
  rw [HS2.out] at t2
  go_enter Try.func15, Try.ntmps15
  go_wp2_with fail
  refine wp_region_any (by kernel_rfl) ?_
  change wpAny _ _ _ _ _ _ _ (World.drew _)
  refine take_to (i := 0) (d := some 8) (v := .int .i64 (m : Int)) rfl rfl (by kernel_rfl) (by kernel_rfl) (by kernel_rfl) (fun _ _ _ h => h) (Or.inl ⟨by rfl, fun w => by go_simp⟩) ?_
  simp only [Act.put, List.setIfInBounds_toArray, List.set_cons_zero, List.set_cons_succ]
  refine take_to (i := 1) (d := some 9) (v := .bool false) rfl rfl (by kernel_rfl) (by kernel_rfl) (by kernel_rfl) (fun _ _ _ h => h) (Or.inl ⟨by rfl, fun w => by go_simp⟩) ?_
  simp only [Act.put, List.setIfInBounds_toArray, List.set_cons_zero, List.set_cons_succ]
  refine take_to (i := 2) (d := some 10) (v := .bool false) rfl rfl (by kernel_rfl) (by kernel_rfl) (by kernel_rfl) (fun _ _ _ h => h) (Or.inl ⟨by rfl, fun w => by go_simp⟩) ?_
  simp only [Act.put, List.setIfInBounds_toArray, List.set_cons_zero, List.set_cons_succ]
  refine take_to (i := 3) (d := some 11) (v := .slice (some ⟨b, o, none⟩) (m + 4) cap) rfl rfl (by kernel_rfl) (by kernel_rfl) (by kernel_rfl) (fun _ _ _ h => h) (Or.inl ⟨by rfl, fun w => by go_simp⟩) ?_
  simp only [Act.put, List.setIfInBounds_toArray, List.set_cons_zero, List.set_cons_succ]
  refine take_to (i := 4) (d := some 12) (v := .int .i64 (m : Int)) rfl rfl (by kernel_rfl) (by kernel_rfl) (by kernel_rfl) (fun _ _ _ h => h) (Or.inl ⟨by rfl, fun w => by go_simp⟩) ?_
  simp only [Act.put, List.setIfInBounds_toArray, List.set_cons_zero, List.set_cons_succ]
  refine take_to (i := 5) (d := some 13) (v := .slice (some ⟨b, o, none⟩) m cap) rfl rfl (by kernel_rfl) (by kernel_rfl) (by kernel_rfl) (fun _ _ _ h => h) (Or.inl ⟨by rfl, fun w => by go_simp⟩) ?_
  simp only [Act.put, List.setIfInBounds_toArray, List.set_cons_zero, List.set_cons_succ]
  refine take_to (i := 8) (d := some 16) (v := .slice (some ⟨b, o, none⟩) (m + 4) cap) rfl rfl (by kernel_rfl) (by kernel_rfl) (by kernel_rfl) (fun _ _ _ h => h) (Or.inl ⟨by rfl, fun w => by go_simp⟩) ?_
  simp only [Act.put, List.setIfInBounds_toArray, List.set_cons_zero, List.set_cons_succ]
  refine wpAny_ready (rs := [6, 9]) (by kernel_rfl) (by simp) ?_
  refine AllReady.cons rfl (fun K hK => ?_) ?_
  · go_simp
    go_wp2_with (go_at_call 13; (with_reducible refine (rseal_any _ _ (l.take m) B1.out R1.out (by rw [HL.out]; omega)).mono ?_); rintro e w1 ⟨u, rfl, own1, b1⟩; have t1 := str_run own1.rd; have t2 := str_run (R0.out.below b1); rw [HS1.out] at t1; rw [HS2.out] at t2; have r3 := R1.out.below b1; clear own1)
    refine wpAny_ready (rs := [7, 9]) (by kernel_rfl) (by simp) ?_
    refine AllReady.cons rfl (fun K hK => ?_) ?_
    · go_simp
      refine hK _ _ ?_; clear hK K
      refine wpAny_ready (rs := [9]) (by kernel_rfl) (by simp) ?_
      refine AllReady.cons rfl (fun K hK => ?_) ?_
      · go_simp
        refine hK _ _ ?_; clear hK K
        refine take_to (i := 10) (d := some 18) (v := .bool false) rfl rfl (by kernel_rfl) (by kernel_rfl) (by kernel_rfl) (fun _ _ _ h => h) (Or.inl ⟨by rfl, fun w => by go_simp⟩) ?_
        simp only [Act.put, List.setIfInBounds_toArray, List.set_cons_zero, List.set_cons_succ]
        refine take_to (i := 11) (d := some 19) (v := .bool false) rfl rfl (by kernel_rfl) (by kernel_rfl) (by kernel_rfl) (fun _ _ _ h => h) (Or.inl ⟨by rfl, fun w => by go_simp⟩) ?_
        simp only [Act.put, List.setIfInBounds_toArray, List.set_cons_zero, List.set_cons_succ]
        refine wpAny_done (by kernel_rfl) ?_ _
        have bb : Below w.heap.size w w1 := (Below.refl _ w).drew.trans b1
        have HN0 : Hid (Own (w1.alloc (.cells #[] 5)) w1.heap.size (.slice (some ⟨w1.heap.size, 0, none⟩) 0 0) []) := Own.new w1 w1.heap.size (Nat.le_refl _) [] 0 rfl (by omega)
        have HR0 : Hid (Rd (w1.alloc (.cells #[] 5)) (.slice (some ⟨b, o, none⟩) m cap) (l.take m)) := r3.below ((Below.refl _ w1).alloc (Nat.le_refl _) _)
        go_wp2_with (at_builtin; refine app_wp rfl _ _ rfl w1.heap.size _ [] rfl (by exact HN0.out) _ (l.take m) rfl (by exact HR0.out) (by rw [HL.out]; simp; omega) (by simp) ?_; intro u3 w3 own3 b3)
        go_ret2
        rw [List.nil_append] at own3
        exact ⟨_, rfl, by rw [HO.out]; exact own3.mono bb.size, bb.trans (((Below.refl _ w1).alloc (Nat.le_refl _) _).trans b3 |>.mono bb.size)⟩
      exact AllReady.nil
    refine AllReady.cons rfl (fun K hK => ?_) ?_
    · go_simp
      refine hK _ _ ?_; clear hK K
      refine wpAny_ready (rs := [7]) (by kernel_rfl) (by simp) ?_
      refine AllReady.cons rfl (fun K hK => ?_) ?_
      · go_simp
        refine hK _ _ ?_; clear hK K
        refine take_to (i := 10) (d := some 18) (v := .bool false) rfl rfl (by kernel_rfl) (by kernel_rfl) (by kernel_rfl) (fun _ _ _ h => h) (Or.inl ⟨by rfl, fun w => by go_simp⟩) ?_
        simp only [Act.put, List.setIfInBounds_toArray, List.set_cons_zero, List.set_cons_succ]
        refine take_to (i := 11) (d := some 19) (v := .bool false) rfl rfl (by kernel_rfl) (by kernel_rfl) (by kernel_rfl) (fun _ _ _ h => h) (Or.inl ⟨by rfl, fun w => by go_simp⟩) ?_
        simp only [Act.put, List.setIfInBounds_toArray, List.set_cons_zero, List.set_cons_succ]
        refine wpAny_done (by kernel_rfl) ?_ _
        have bb : Below w.heap.size w w1 := (Below.refl _ w).drew.trans b1
        have HN0 : Hid (Own (w1.alloc (.cells #[] 5)) w1.heap.size (.slice (some ⟨w1.heap.size, 0, none⟩) 0 0) []) := Own.new w1 w1.heap.size (Nat.le_refl _) [] 0 rfl (by omega)
        have HR0 : Hid (Rd (w1.alloc (.cells #[] 5)) (.slice (some ⟨b, o, none⟩) m cap) (l.take m)) := r3.below ((Below.refl _ w1).alloc (Nat.le_refl _) _)
        go_wp2_with (at_builtin; refine app_wp rfl _ _ rfl w1.heap.size _ [] rfl (by exact HN0.out) _ (l.take m) rfl (by exact HR0.out) (by rw [HL.out]; simp; omega) (by simp) ?_; intro u3 w3 own3 b3)
        go_ret2
        rw [List.nil_append] at own3
        exact ⟨_, rfl, by rw [HO.out]; exact own3.mono bb.size, bb.trans (((Below.refl _ w1).alloc (Nat.le_refl _) _).trans b3 |>.mono bb.size)⟩
      exact AllReady.nil
    exact AllReady.nil
  refine AllReady.cons rfl (fun K hK => ?_) ?_
  · go_simp
    refine hK _ _ ?_; clear hK K
    refine wpAny_ready (rs := [6]) (by kernel_rfl) (by simp) ?_
    refine AllReady.cons rfl (fun K hK => ?_) ?_
    · go_simp
      go_wp2_with (go_at_call 13; (with_reducible refine (rseal_any _ _ (l.take m) B1.out R1.out (by rw [HL.out]; omega)).mono ?_); rintro e w1 ⟨u, rfl, own1, b1⟩; have t1 := str_run own1.rd; have t2 := str_run (R0.out.below b1); rw [HS1.out] at t1; rw [HS2.out] at t2; have r3 := R1.out.below b1; clear own1)
      refine wpAny_ready (rs := [7]) (by kernel_rfl) (by simp) ?_
      refine AllReady.cons rfl (fun K hK => ?_) ?_
      · go_simp
        refine hK _ _ ?_; clear hK K
        refine take_to (i := 10) (d := some 18) (v := .bool false) rfl rfl (by kernel_rfl) (by kernel_rfl) (by kernel_rfl) (fun _ _ _ h => h) (Or.inl ⟨by rfl, fun w => by go_simp⟩) ?_
        simp only [Act.put, List.setIfInBounds_toArray, List.set_cons_zero, List.set_cons_succ]
        refine take_to (i := 11) (d := some 19) (v := .bool false) rfl rfl (by kernel_rfl) (by kernel_rfl) (by kernel_rfl) (fun _ _ _ h => h) (Or.inl ⟨by rfl, fun w => by go_simp⟩) ?_
        simp only [Act.put, List.setIfInBounds_toArray, List.set_cons_zero, List.set_cons_succ]
        refine wpAny_done (by kernel_rfl) ?_ _
        have bb : Below w.heap.size w w1 := (Below.refl _ w).drew.trans b1
        have HN0 : Hid (Own (w1.alloc (.cells #[] 5)) w1.heap.size (.slice (some ⟨w1.heap.size, 0, none⟩) 0 0) []) := Own.new w1 w1.heap.size (Nat.le_refl _) [] 0 rfl (by omega)
        have HR0 : Hid (Rd (w1.alloc (.cells #[] 5)) (.slice (some ⟨b, o, none⟩) m cap) (l.take m)) := r3.below ((Below.refl _ w1).alloc (Nat.le_refl _) _)
        go_wp2_with (at_builtin; refine app_wp rfl _ _ rfl w1.heap.size _ [] rfl (by exact HN0.out) _ (l.take m) rfl (by exact HR0.out) (by rw [HL.out]; simp; omega) (by simp) ?_; intro u3 w3 own3 b3)
        go_ret2
        rw [List.nil_append] at own3
        exact ⟨_, rfl, by rw [HO.out]; exact own3.mono bb.size, bb.trans (((Below.refl _ w1).alloc (Nat.le_refl _) _).trans b3 |>.mono bb.size)⟩
      exact AllReady.nil
    exact AllReady.nil
  exact AllReady.nil
set_option maxHeartbeats 400000 in
theorem ropen_no_any (w : World) (b o cap m : Nat) (l : List Int) (hb : Bytes l) (h : At w b o l) (hn : l.length = m + 4) (hc : m + 4 ≤ cap) (hm : cap ≤ 9223372036854775807) (hlen : m + 4 ≤ 140737488355328) (hq : openB l = false) :
    Calls Try.prog 15 #[.slice (some ⟨b, o, none⟩) (m + 4) cap] w fun e w' => ∃ u, e = .returned (.tuple #[u, .bool false]) ∧ Own w' w.heap.size u (opened l) ∧ Below w.heap.size w w' := by
  have hd : decide ((m : Int) < 0) = false := by simp
  have i1 : (0 : Int) ≤ (m : Int) := by omega
  have i2 : (m : Int) ≤ (m : Int) + 4 := by omega
  have i3 : (m : Int) ≤ (cap : Int) := by omega
  have i4 : m ≤ cap := by omega
  have i5 : m ≤ m + 4 := by omega
  have i6 : ¬ cap = m := by omega
  have hA := h.take m
  have hD := h.drop m
  have R0 : Hid (Rd w.drew (.slice (some ⟨b, o, none⟩) (m + 4) cap) l) := by
    have := Rd.at (w := w.drew) (cap := cap) h (by omega) hm
    rwa [hn] at this
  have R1 : Hid (Rd w.drew (.slice (some ⟨b, o, none⟩) m cap) (l.take m)) := by
    have := Rd.at (w := w.drew) (cap := cap) hA (by rw [List.length_take]; omega) hm
    rwa [List.length_take, Nat.min_eq_left (by omega)] at this
  have R2 : Hid (Rd w.drew (.slice (some ⟨b, o + m, none⟩) 4 (cap - m)) (l.drop m)) := by
    have := Rd.at (w := w.drew) (cap := cap - m) hD (by rw [List.length_drop]; omega) (by omega)
    rwa [List.length_drop, hn, Nat.add_sub_cancel_left] at this
  have B0 : Hid (Bytes l) := hb
  have B1 : Hid (Bytes (l.take m)) := hb.take m
  have B2 : Hid (Bytes (l.drop m)) := hb.drop m
  have HL : Hid ((l.take m).length = m) := by
    have : (l.take m).length = m := by rw [List.length_take]; omega
    exact this
  have HQ := (show Hid _ from open_is hn)
  have HY := (show Hid _ from fun h => opened_yes hn h)
  have he : ¬ (l.take m ++ four (sum (l.take m)) = l) := fun e => by rw [(open_app hn).2 e] at hq; exact absurd hq (by decide)
  clear hA hD hb h hn
  have he2 := (str_eq (Bytes.append B1.out (four_ok _)) B0.out).trans (decide_eq_false he)
  obtain ⟨s, hs⟩ : ∃ s, strOfNums l = s := ⟨_, rfl⟩
  obtain ⟨t, ht⟩ : ∃ t, strOfNums (l.take m ++ four (sum (l.take m))) = t := ⟨_, rfl⟩
  rw [hs, ht] at he2
  have HS2 : Hid (strOfNums l = s) := hs
  have HS1 : Hid (strOfNums (l.take m ++ four (sum (l.take m))) = t) := ht
  have HO := (show Hid _ from opened_no hq)
  clear HQ HY hq hs he ht
  have t2 := str_run R0.out
  rw [HS2.out] at t2
  go_enter Try.func15, Try.ntmps15
  go_wp2_with fail
  refine wp_region_any (by kernel_rfl) ?_
  change wpAny _ _ _ _ _ _ _ (World.drew _)
  refine take_to (i := 0) (d := some 8) (v := .int .i64 (m : Int)) rfl rfl (by kernel_rfl) (by kernel_rfl) (by kernel_rfl) (fun _ _ _ h => h) (Or.inl ⟨by rfl, fun w => by go_simp⟩) ?_
  simp only [Act.put, List.setIfInBounds_toArray, List.set_cons_zero, List.set_cons_succ]
  refine take_to (i := 1) (d := some 9) (v := .bool false) rfl rfl (by kernel_rfl) (by kernel_rfl) (by kernel_rfl) (fun _ _ _ h => h) (Or.inl ⟨by rfl, fun w => by go_simp⟩) ?_
  simp only [Act.put, List.setIfInBounds_toArray, List.set_cons_zero, List.set_cons_succ]
  refine take_to (i := 2) (d := some 10) (v := .bool false) rfl rfl (by kernel_rfl) (by kernel_rfl) (by kernel_rfl) (fun _ _ _ h => h) (Or.inl ⟨by rfl, fun w => by go_simp⟩) ?_
  simp only [Act.put, List.setIfInBounds_toArray, List.set_cons_zero, List.set_cons_succ]
  refine take_to (i := 3) (d := some 11) (v := .slice (some ⟨b, o, none⟩) (m + 4) cap) rfl rfl (by kernel_rfl) (by kernel_rfl) (by kernel_rfl) (fun _ _ _ h => h) (Or.inl ⟨by rfl, fun w => by go_simp⟩) ?_
  simp only [Act.put, List.setIfInBounds_toArray, List.set_cons_zero, List.set_cons_succ]
  refine take_to (i := 4) (d := some 12) (v := .int .i64 (m : Int)) rfl rfl (by kernel_rfl) (by kernel_rfl) (by kernel_rfl) (fun _ _ _ h => h) (Or.inl ⟨by rfl, fun w => by go_simp⟩) ?_
  simp only [Act.put, List.setIfInBounds_toArray, List.set_cons_zero, List.set_cons_succ]
  refine take_to (i := 5) (d := some 13) (v := .slice (some ⟨b, o, none⟩) m cap) rfl rfl (by kernel_rfl) (by kernel_rfl) (by kernel_rfl) (fun _ _ _ h => h) (Or.inl ⟨by rfl, fun w => by go_simp⟩) ?_
  simp only [Act.put, List.setIfInBounds_toArray, List.set_cons_zero, List.set_cons_succ]
  refine take_to (i := 8) (d := some 16) (v := .slice (some ⟨b, o, none⟩) (m + 4) cap) rfl rfl (by kernel_rfl) (by kernel_rfl) (by kernel_rfl) (fun _ _ _ h => h) (Or.inl ⟨by rfl, fun w => by go_simp⟩) ?_
  simp only [Act.put, List.setIfInBounds_toArray, List.set_cons_zero, List.set_cons_succ]
  refine wpAny_ready (rs := [6, 9]) (by kernel_rfl) (by simp) ?_
  refine AllReady.cons rfl (fun K hK => ?_) ?_
  · go_simp
    go_wp2_with (go_at_call 13; (with_reducible refine (rseal_any _ _ (l.take m) B1.out R1.out (by rw [HL.out]; omega)).mono ?_); rintro e w1 ⟨u, rfl, own1, b1⟩; have t1 := str_run own1.rd; have t2 := str_run (R0.out.below b1); rw [HS1.out] at t1; rw [HS2.out] at t2; have r3 := R1.out.below b1; clear own1)
    refine wpAny_ready (rs := [7, 9]) (by kernel_rfl) (by simp) ?_
    refine AllReady.cons rfl (fun K hK => ?_) ?_
    · go_simp
      refine hK _ _ ?_; clear hK K
      refine wpAny_ready (rs := [9]) (by kernel_rfl) (by simp) ?_
      refine AllReady.cons rfl (fun K hK => ?_) ?_
      · go_simp
        refine hK _ _ ?_; clear hK K
        refine take_to (i := 10) (d := some 18) (v := .bool true) rfl rfl (by kernel_rfl) (by kernel_rfl) (by kernel_rfl) (fun _ _ _ h => h) (Or.inl ⟨by rfl, fun w => by go_simp⟩) ?_
        simp only [Act.put, List.setIfInBounds_toArray, List.set_cons_zero, List.set_cons_succ]
        refine take_to (i := 11) (d := some 19) (v := .bool true) rfl rfl (by kernel_rfl) (by kernel_rfl) (by kernel_rfl) (fun _ _ _ h => h) (Or.inl ⟨by rfl, fun w => by go_simp⟩) ?_
        simp only [Act.put, List.setIfInBounds_toArray, List.set_cons_zero, List.set_cons_succ]
        refine wpAny_done (by kernel_rfl) ?_ _
        go_wp2_with fail
        go_ret2
        exact ⟨_, rfl, by rw [HO.out]; exact Own.nil _ _, (Below.refl _ w).drew.trans b1⟩
      exact AllReady.nil
    refine AllReady.cons rfl (fun K hK => ?_) ?_
    · go_simp
      refine hK _ _ ?_; clear hK K
      refine wpAny_ready (rs := [7]) (by kernel_rfl) (by simp) ?_
      refine AllReady.cons rfl (fun K hK => ?_) ?_
      · go_simp
        refine hK _ _ ?_; clear hK K
        refine take_to (i := 10) (d := some 18) (v := .bool true) rfl rfl (by kernel_rfl) (by kernel_rfl) (by kernel_rfl) (fun _ _ _ h => h) (Or.inl ⟨by rfl, fun w => by go_simp⟩) ?_
        simp only [Act.put, List.setIfInBounds_toArray, List.set_cons_zero, List.set_cons_succ]
        refine take_to (i := 11) (d := some 19) (v := .bool true) rfl rfl (by kernel_rfl) (by kernel_rfl) (by kernel_rfl) (fun _ _ _ h => h) (Or.inl ⟨by rfl, fun w => by go_simp⟩) ?_
        simp only [Act.put, List.setIfInBounds_toArray, List.set_cons_zero, List.set_cons_succ]
        refine wpAny_done (by kernel_rfl) ?_ _
        go_wp2_with fail
        go_ret2
        exact ⟨_, rfl, by rw [HO.out]; exact Own.nil _ _, (Below.refl _ w).drew.trans b1⟩
      exact AllReady.nil
    exact AllReady.nil
  refine AllReady.cons rfl (fun K hK => ?_) ?_
  · go_simp
    refine hK _ _ ?_; clear hK K
    refine wpAny_ready (rs := [6]) (by kernel_rfl) (by simp) ?_
    refine AllReady.cons rfl (fun K hK => ?_) ?_
    · go_simp
      go_wp2_with (go_at_call 13; (with_reducible refine (rseal_any _ _ (l.take m) B1.out R1.out (by rw [HL.out]; omega)).mono ?_); rintro e w1 ⟨u, rfl, own1, b1⟩; have t1 := str_run own1.rd; have t2 := str_run (R0.out.below b1); rw [HS1.out] at t1; rw [HS2.out] at t2; have r3 := R1.out.below b1; clear own1)
      refine wpAny_ready (rs := [7]) (by kernel_rfl) (by simp) ?_
      refine AllReady.cons rfl (fun K hK => ?_) ?_
      · go_simp
        refine hK _ _ ?_; clear hK K
        refine take_to (i := 10) (d := some 18) (v := .bool true) rfl rfl (by kernel_rfl) (by kernel_rfl) (by kernel_rfl) (fun _ _ _ h => h) (Or.inl ⟨by rfl, fun w => by go_simp⟩) ?_
        simp only [Act.put, List.setIfInBounds_toArray, List.set_cons_zero, List.set_cons_succ]
        refine take_to (i := 11) (d := some 19) (v := .bool true) rfl rfl (by kernel_rfl) (by kernel_rfl) (by kernel_rfl) (fun _ _ _ h => h) (Or.inl ⟨by rfl, fun w => by go_simp⟩) ?_
        simp only [Act.put, List.setIfInBounds_toArray, List.set_cons_zero, List.set_cons_succ]
        refine wpAny_done (by kernel_rfl) ?_ _
        go_wp2_with fail
        go_ret2
        exact ⟨_, rfl, by rw [HO.out]; exact Own.nil _ _, (Below.refl _ w).drew.trans b1⟩
      exact AllReady.nil
    exact AllReady.nil
  exact AllReady.nil

theorem open_any (w : World) (v : Value) (l : List Int) (hb : Bytes l) (h : Rd w v l) (hlen : l.length ≤ 140737488355328) :
    Calls Try.prog 14 #[v] w fun e w' => ∃ u, e = .returned (.tuple #[u, .bool (openB l)]) ∧ Own w' w.heap.size u (opened l) ∧ Below w.heap.size w w' := by
  by_cases hf : l.length < 4
  · refine (open_few_any w v l h hf).mono ?_
    rintro e w' ⟨rfl, b1⟩
    rw [opened_no (open_few hf), open_few hf]
    exact ⟨_, rfl, Own.nil _ _, b1⟩
  · obtain ⟨ao, cap, rfl, hc, hm, hz, h3⟩ := h
    obtain ⟨b, o, rfl, hat⟩ := h3.resolve_left (by intro e; rw [e] at hf; simp at hf)
    obtain ⟨m, hn⟩ : ∃ m, l.length = m + 4 := ⟨l.length - 4, by omega⟩
    rw [hn] at hc hlen ⊢
    cases hq : openB l with
    | true => exact open_yes_any w b o cap m l hb hat hn hc hm hlen hq
    | false => exact open_no_any w b o cap m l hb hat hn hc hm hlen hq
theorem ropen_any (w : World) (v : Value) (l : List Int) (hb : Bytes l) (h : Rd w v l) (hlen : l.length ≤ 140737488355328) :
    Calls Try.prog 15 #[v] w fun e w' => ∃ u, e = .returned (.tuple #[u, .bool (openB l)]) ∧ Own w' w.heap.size u (opened l) ∧ Below w.heap.size w w' := by
  by_cases hf : l.length < 4
  · refine (ropen_few_any w v l h hf).mono ?_
    rintro e w' ⟨rfl, b1⟩
    rw [opened_no (open_few hf), open_few hf]
    exact ⟨_, rfl, Own.nil _ _, b1⟩
  · obtain ⟨ao, cap, rfl, hc, hm, hz, h3⟩ := h
    obtain ⟨b, o, rfl, hat⟩ := h3.resolve_left (by intro e; rw [e] at hf; simp at hf)
    obtain ⟨m, hn⟩ : ∃ m, l.length = m + 4 := ⟨l.length - 4, by omega⟩
    rw [hn] at hc hlen ⊢
    cases hq : openB l with
    | true => exact ropen_yes_any w b o cap m l hb hat hn hc hm hlen hq
    | false => exact ropen_no_any w b o cap m l hb hat hn hc hm hlen hq
end Go.Proofs.Ythofloblheodbaa
