/-
  Proved: how many bytes a record has are those of its parts (the law RecordSizes answers true at every input).
  Conditions: none.
-/
import Derived.Test.YtjjaodlgnoiheaaRows
import Derived.Test.YtjjaodlgnoiheaaFr8
import Derived.Test.YtjjaodlgnoiheaaRec8
namespace Go.Proofs.Ytjjaodlgnoiheaa
open Go.ChangeShapes Go.WideShapes Go.ChangeAt Go.RowKit
set_option linter.unusedVariables false

namespace RecordSizesL
theorem own : ownKnob Try.prog.godebug = none := by kernel_rfl

set_option maxRecDepth 8000 in
set_option maxHeartbeats 20000000 in
theorem walk (w : World) (r : Rc) (ok : r.ok) (last : Int) (hl : (Lit.int .i64 last).wf = true) :
    Calls Try.prog 11 #[recV r, .int .i64 last] w fun e w' => e = .returned (.bool true) ∧ Below w.heap.size w w' := by
  have bl := wf_i64 hl
  clear hl
  obtain ⟨k, i, p0, p1, p2, v0, v1, v2, a⟩ := r
  obtain ⟨l, hll⟩ : ∃ l, wrB ⟨k, i, p0, p1, p2, v0, v1, v2, a⟩ last = l := ⟨_, rfl⟩
  obtain ⟨er, her⟩ : ∃ e, wrE ⟨k, i, p0, p1, p2, v0, v1, v2, a⟩ last = e := ⟨_, rfl⟩
  have HL : Hid (wrB ⟨k, i, p0, p1, p2, v0, v1, v2, a⟩ last = l) := hll
  have HE : Hid (wrE ⟨k, i, p0, p1, p2, v0, v1, v2, a⟩ last = er) := her
  have LN : l.length ≤ 68 := by rw [← hll]; exact wr_len ok
  have OK : Hid (⟨k, i, p0, p1, p2, v0, v1, v2, a⟩ : Rc).ok := ok
  have BL : Hid (S64 last) := bl
  obtain ⟨l0, l1⟩ := bl
  clear hll her ok
  go_enter Try.func11, Try.ntmps11
  go_wp2_with fail
  generalize hW : w.alloc (.cells (recA ⟨k, i, p0, p1, p2, v0, v1, v2, a⟩) 25) = W0
  obtain ⟨A0, B0, Z0⟩ := boxed hW
  clear hW Z0
  obtain ⟨H, hH⟩ : ∃ H, w.heap.size = H := ⟨_, rfl⟩
  have HH : Hid (w.heap.size = H) := hH
  have hle : H ≤ w.heap.size := by omega
  rw [hH] at A0 B0
  rw [hH]
  clear hH
  refine (rec_write _ ⟨k, i, p0, p1, p2, v0, v1, v2, a⟩ last OK.out BL.out).mono ?_; rw [HL.out, HE.out]; rintro e' W1 ⟨u1, rfl, own1, bb⟩
  have A1 := A0.below bb A0.lt
  have B1 := bup B0 hle bb
  obtain ⟨ao, cap, hu, _⟩ := own1.rd
  subst hu
  clear own1 A0 B0 bb
  obtain ⟨n0, hn0⟩ : ∃ n0, l.length = n0 := ⟨_, rfl⟩
  rw [hn0] at LN
  rw [hn0]
  have HN0 : Hid (l.length = n0) := hn0
  clear hn0
  by_cases he : er = 0
  · have HW := wrE_ok (HE.out.trans he)
    obtain ⟨c1, c2, c3⟩ := HW
    have CK := chk_ok c1
    obtain ⟨⟨k0, k1⟩, ⟨i0, i1⟩, _, _⟩ := CK
    simp only at k0 k1 i0 i1 c3
    have eL : l = put (i - last - 1) ++ k :: bodyB ⟨k, i, p0, p1, p2, v0, v1, v2, a⟩ := by rw [← HL.out]; unfold wrB; rw [if_pos (HE.out.trans he)]
    obtain ⟨d, hd⟩ : ∃ d, i - last - 1 = d := ⟨_, rfl⟩
    have d0 : 0 ≤ d := by omega
    have d1 : d ≤ 65535 := by omega
    rw [hd] at eL
    obtain ⟨q, hq⟩ : ∃ q, (put d).length = q := ⟨_, rfl⟩
    have qb : q ≤ 10 := by rw [← hq]; exact put_ten d0 (by omega)
    have HQ : Hid ((put d).length = q) := hq
    have EN : Hid (n0 = q + 1 + (bodyB ⟨k, i, p0, p1, p2, v0, v1, v2, a⟩).length) := (by rw [← HN0.out, eL, List.length_append, List.length_cons, hq]; omega : n0 = q + 1 + (bodyB ⟨k, i, p0, p1, p2, v0, v1, v2, a⟩).length)
    have OKN : Hid (∀ x ∈ nums ⟨k, i, p0, p1, p2, v0, v1, v2, a⟩, S64 x) := OK.out.nums
    have ba := OK.out.a
    simp only at ba
    obtain ⟨a0, a1⟩ := ba
    have la3 := put_a (x := a) ⟨a0, a1⟩
    subst he
    clear HL HE HN0 OK BL c1 c2 eL hq
    have lt1 := A1.lt
    have x0 := A1.cell 0 _ rfl
    have x1 := A1.cell 1 _ rfl
    have x2 := A1.cell 2 _ rfl
    have x3 := A1.cell 3 _ rfl
    have x4 := A1.cell 4 _ rfl
    have x5 := A1.cell 5 _ rfl
    have x6 := A1.cell 6 _ rfl
    have x7 := A1.cell 7 _ rfl
    have x8 := A1.cell 8 _ rfl
    go_wp2_with fail
    refine (size_any d d0 (by omega) _).mono ?_; rw [HQ.out]; rintro e' W2 ⟨rfl, rfl⟩
    go_wp2_with fail
    generalize hV : W2.alloc (.cells #[.int .i64 p0, .int .i64 p1, .int .i64 p2, .int .i64 v0, .int .i64 v1, .int .i64 v2] 2) = W3
    obtain ⟨S3, bb, _⟩ := boxed hV
    have A3 := A1.below bb A1.lt
    have B3 := bup B1 hle bb
    obtain ⟨M, hM⟩ : ∃ M, W2.heap.size = M := ⟨_, rfl⟩
    rw [hM] at S3
    rw [hM]
    clear hV bb hM A1 B1 x0 x1 x2 x3 x4 x5 x6 x7 x8 lt1 HQ
    obtain ⟨ns, hns⟩ : ∃ ns, nums ⟨k, i, p0, p1, p2, v0, v1, v2, a⟩ = ns := ⟨_, rfl⟩
    have HNL : Hid (ns.length = 6) := (by rw [← hns]; rfl : ns.length = 6)
    have HNS : Hid (∀ j, j < 6 → W3.cell? ⟨M, j, none⟩ = some (.int .i64 (ns.getD j 0))) := by
      intro j hj
      rw [← hns]
      match j, hj with
      | 0, _ => exact S3.cell 0 _ rfl
      | 1, _ => exact S3.cell 1 _ rfl
      | 2, _ => exact S3.cell 2 _ rfl
      | 3, _ => exact S3.cell 3 _ rfl
      | 4, _ => exact S3.cell 4 _ rfl
      | 5, _ => exact S3.cell 5 _ rfl
    have EB : Hid (n0 = q + 1 + (if k = 1 then 1 + (zn ns).length + (if a = 0 then 0 else (put a).length) else if k = 2 then 0 else (zs ns).length + (put a).length)) := by
      have h := EN.out
      rw [h, ← hns]
      show _ = _
      congr 1
      unfold bodyB updB wholeB restR
      simp only
      split
      · rw [List.length_cons, List.length_append]
        split
        · simp; omega
        · omega
      · split
        · rfl
        · rw [List.length_append]
    rw [hns] at OKN
    clear hns EN
    have lA := A3.lt
    have lS := S3.lt
    have z0 := A3.cell 0 _ rfl
    have z8 := A3.cell 8 _ rfl
    by_cases g0 : k = 0
    · have EK : Hid (n0 = q + 1 + ((zs ns).length + (put a).length)) := by have h := EB.out; rw [if_neg (by omega), if_neg (by omega)] at h; exact h
      clear EB
      subst g0
      go_loop [54, 7] (fun x nv => ∃ j : Nat, j ≤ 6 ∧ x = .int .i64 j ∧ nv = .int .i64 ((q + 1 + (zs (ns.take j)).length : Nat) : Int)) (fun x _ => 6 - (intOf x).toNat)
      case atStart => exact ⟨0, by omega, rfl, by simp [zs]⟩
      case round =>
        obtain ⟨j, hj, rfl, rfl⟩ := hrel
        have HLn : (zs (ns.take j)).length ≤ 60 := by
          have h1 := zs_len (ns.take j) (fun n hn => OKN.out n (List.mem_of_mem_take hn))
          have h2 : (ns.take j).length ≤ j := List.length_take_le _ _
          omega
        obtain ⟨c, hc⟩ : ∃ c, (zs (ns.take j)).length = c := ⟨_, rfl⟩
        rw [hc] at HLn
        rw [hc]
        have HC : Hid ((zs (ns.take j)).length = c) := hc
        clear hc
        by_cases hlt : j < 6
        · have hc := HNS.out j hlt
          have bx := OKN.out _ (getD_mem (l := ns) (k := j) (by rw [HNL.out]; exact hlt))
          have HE : Hid (zs (ns.take (j + 1)) = zs (ns.take j) ++ put (zig (ns.getD j 0))) := zs_snoc ns j (by rw [HNL.out]; exact hlt)
          obtain ⟨x, hxx⟩ : ∃ x, ns.getD j 0 = x := ⟨_, rfl⟩
          rw [hxx] at hc bx HE
          clear hxx
          have bz := zig_bd bx
          have pz := put_ten bz.1 bz.2
          go_wp2_with fail
          refine (zig_any x bx _).mono ?_; rintro e w5 ⟨rfl, rfl⟩
          obtain ⟨z, hz⟩ : ∃ z, zig x = z := ⟨_, rfl⟩
          rw [hz] at bz pz HE
          rw [hz]
          clear hz
          go_wp2_with fail
          refine (size_any z bz.1 bz.2 _).mono ?_; rintro e w6 ⟨rfl, rfl⟩
          obtain ⟨pl, hpl⟩ : ∃ pl, (put z).length = pl := ⟨_, rfl⟩
          rw [hpl] at pz
          rw [hpl]
          have EL : Hid ((zs (ns.take (j + 1))).length = c + pl) := (by rw [HE.out, List.length_append, HC.out, hpl] : (zs (ns.take (j + 1))).length = c + pl)
          clear hpl
          go_wp2_with fail
          go_round
          case rel => exact ⟨j + 1, by omega, by go_num, by rw [EL.out]; simp; omega⟩
          case measure => simp [intOf]; omega
        · obtain rfl : j = 6 := by omega
          have E6 : (zs ns).length = c := by have h := HC.out; rwa [List.take_of_length_le (by rw [HNL.out]; omega)] at h
          obtain ⟨pa, hpa⟩ : ∃ pa, (put a).length = pa := ⟨_, rfl⟩
          have EK2 : n0 = q + 1 + (c + pa) := by rw [EK.out, E6, hpa]
          have HPA : Hid ((put a).length = pa) := hpa
          rw [hpa] at la3
          clear EK E6 hpa
          subst EK2
          go_wp2_with fail
          refine (size_any a a0 (by omega) _).mono ?_; rw [HPA.out]; rintro e w5 ⟨rfl, rfl⟩
          go_wp2_with fail
          refine (rec_alive _).mono ?_; rintro e' W4 ⟨rfl, bb⟩
          have B4 := bup B3 hle bb
          go_wp2_with fail
          go_ret
          exact ⟨ret_bool (by simp; omega), HH.out ▸ B4⟩
    by_cases g1 : k = 1
    · have EK : Hid (n0 = q + 1 + (1 + (zn ns).length + (if a = 0 then 0 else (put a).length))) := by have h := EB.out; rw [if_pos g1] at h; exact h
      clear EB
      subst g1
      go_loop [54, 7] (fun x nv => ∃ j : Nat, j ≤ 6 ∧ x = .int .i64 j ∧ nv = .int .i64 ((q + 1 + (zn (ns.take j)).length : Nat) : Int)) (fun x _ => 6 - (intOf x).toNat)
      case atStart => exact ⟨0, by omega, rfl, by simp [zn]⟩
      case round =>
        obtain ⟨j, hj, rfl, rfl⟩ := hrel
        have HLn : (zn (ns.take j)).length ≤ 60 := by
          have h1 := zn_len (ns.take j) (fun n hn => OKN.out n (List.mem_of_mem_take hn))
          have h2 : (ns.take j).length ≤ j := List.length_take_le _ _
          omega
        obtain ⟨c, hc⟩ : ∃ c, (zn (ns.take j)).length = c := ⟨_, rfl⟩
        rw [hc] at HLn
        rw [hc]
        have HC : Hid ((zn (ns.take j)).length = c) := hc
        clear hc
        by_cases hlt : j < 6
        · have hc := HNS.out j hlt
          have bx := OKN.out _ (getD_mem (l := ns) (k := j) (by rw [HNL.out]; exact hlt))
          have HE : Hid (zn (ns.take (j + 1)) = zn (ns.take j) ++ (if ns.getD j 0 = 0 then [] else put (zig (ns.getD j 0)))) := zn_snoc ns j (by rw [HNL.out]; exact hlt)
          obtain ⟨x, hxx⟩ : ∃ x, ns.getD j 0 = x := ⟨_, rfl⟩
          rw [hxx] at hc bx HE
          clear hxx
          by_cases hx0 : x = 0
          · have EL : Hid ((zn (ns.take (j + 1))).length = c) := (by rw [HE.out, if_pos hx0, List.append_nil, HC.out] : (zn (ns.take (j + 1))).length = c)
            have hxq : (x != 0) = false := by simp [hx0]
            clear hx0
            go_wp2_with fail
            go_round
            case rel => exact ⟨j + 1, by omega, by go_num, by rw [EL.out]⟩
            case measure => simp [intOf]; omega
          · have hxq : (x != 0) = true := by simp [hx0]
            have HE2 : Hid (zn (ns.take (j + 1)) = zn (ns.take j) ++ put (zig x)) := by have h := HE.out; rw [if_neg hx0] at h; exact h
            have bz := zig_bd bx
            have pz := put_ten bz.1 bz.2
            go_wp2_with fail
            refine (zig_any x bx _).mono ?_; rintro e w5 ⟨rfl, rfl⟩
            obtain ⟨z, hz⟩ : ∃ z, zig x = z := ⟨_, rfl⟩
            rw [hz] at bz pz HE2
            rw [hz]
            clear hz
            go_wp2_with fail
            refine (size_any z bz.1 bz.2 _).mono ?_; rintro e w6 ⟨rfl, rfl⟩
            obtain ⟨pl, hpl⟩ : ∃ pl, (put z).length = pl := ⟨_, rfl⟩
            rw [hpl] at pz
            rw [hpl]
            have EL : Hid ((zn (ns.take (j + 1))).length = c + pl) := (by rw [HE2.out, List.length_append, HC.out, hpl] : (zn (ns.take (j + 1))).length = c + pl)
            clear hpl
            go_wp2_with fail
            go_round
            case rel => exact ⟨j + 1, by omega, by go_num, by rw [EL.out]; simp; omega⟩
            case measure => simp [intOf]; omega
        · obtain rfl : j = 6 := by omega
          have E6 : (zn ns).length = c := by have h := HC.out; rwa [List.take_of_length_le (by rw [HNL.out]; omega)] at h
          by_cases ha : a = 0
          · have EK2 : n0 = q + 1 + (1 + c) := by rw [EK.out, if_pos ha, E6]; omega
            have haq : (a == 0) = true := by simp [ha]
            clear EK E6 ha
            subst EK2
            go_wp2_with fail
            refine (rec_alive _).mono ?_; rintro e' W4 ⟨rfl, bb⟩
            have B4 := bup B3 hle bb
            go_wp2_with fail
            go_ret
            exact ⟨ret_bool (by simp; omega), HH.out ▸ B4⟩
          · obtain ⟨pa, hpa⟩ : ∃ pa, (put a).length = pa := ⟨_, rfl⟩
            have EK2 : n0 = q + 1 + (1 + c + pa) := by rw [EK.out, if_neg ha, E6, hpa]
            have haq : (a == 0) = false := by simp [ha]
            have HPA : Hid ((put a).length = pa) := hpa
            rw [hpa] at la3
            clear EK E6 hpa ha
            subst EK2
            go_wp2_with fail
            refine (size_any a a0 (by omega) _).mono ?_; rw [HPA.out]; rintro e w5 ⟨rfl, rfl⟩
            go_wp2_with fail
            refine (rec_alive _).mono ?_; rintro e' W4 ⟨rfl, bb⟩
            have B4 := bup B3 hle bb
            go_wp2_with fail
            go_ret
            exact ⟨ret_bool (by simp; omega), HH.out ▸ B4⟩
    by_cases g2 : k = 2
    · have EK : Hid (n0 = q + 1 + 0) := by have h := EB.out; rw [if_neg (by omega), if_pos g2] at h; exact h
      clear EB
      subst g2
      go_loop [54, 7] (fun x nv => ∃ j : Nat, j ≤ 6 ∧ x = .int .i64 j ∧ nv = .int .i64 ((q + 1 : Nat) : Int)) (fun x _ => 6 - (intOf x).toNat)
      case atStart => exact ⟨0, by omega, rfl, by simp⟩
      case round =>
        obtain ⟨j, hj, rfl, rfl⟩ := hrel
        by_cases hlt : j < 6
        · have hc := HNS.out j hlt
          have bx := OKN.out _ (getD_mem (l := ns) (k := j) (by rw [HNL.out]; exact hlt))
          obtain ⟨x, hxx⟩ : ∃ x, ns.getD j 0 = x := ⟨_, rfl⟩
          rw [hxx] at hc bx
          clear hxx
          go_wp2_with fail
          go_round
          case rel => exact ⟨j + 1, by omega, by go_num, rfl⟩
          case measure => simp [intOf]; omega
        · obtain rfl : j = 6 := by omega
          have EK2 : n0 = q + 1 := by rw [EK.out]
          clear EK
          subst EK2
          go_wp2_with fail
          refine (rec_alive _).mono ?_; rintro e' W4 ⟨rfl, bb⟩
          have B4 := bup B3 hle bb
          go_wp2_with fail
          go_ret
          exact ⟨ret_bool (by simp), HH.out ▸ B4⟩
    · have g3 : k = 3 := by omega
      have EK : Hid (n0 = q + 1 + ((zs ns).length + (put a).length)) := by have h := EB.out; rw [if_neg (by omega), if_neg (by omega)] at h; exact h
      clear EB
      subst g3
      go_loop [54, 7] (fun x nv => ∃ j : Nat, j ≤ 6 ∧ x = .int .i64 j ∧ nv = .int .i64 ((q + 1 + (zs (ns.take j)).length : Nat) : Int)) (fun x _ => 6 - (intOf x).toNat)
      case atStart => exact ⟨0, by omega, rfl, by simp [zs]⟩
      case round =>
        obtain ⟨j, hj, rfl, rfl⟩ := hrel
        have HLn : (zs (ns.take j)).length ≤ 60 := by
          have h1 := zs_len (ns.take j) (fun n hn => OKN.out n (List.mem_of_mem_take hn))
          have h2 : (ns.take j).length ≤ j := List.length_take_le _ _
          omega
        obtain ⟨c, hc⟩ : ∃ c, (zs (ns.take j)).length = c := ⟨_, rfl⟩
        rw [hc] at HLn
        rw [hc]
        have HC : Hid ((zs (ns.take j)).length = c) := hc
        clear hc
        by_cases hlt : j < 6
        · have hc := HNS.out j hlt
          have bx := OKN.out _ (getD_mem (l := ns) (k := j) (by rw [HNL.out]; exact hlt))
          have HE : Hid (zs (ns.take (j + 1)) = zs (ns.take j) ++ put (zig (ns.getD j 0))) := zs_snoc ns j (by rw [HNL.out]; exact hlt)
          obtain ⟨x, hxx⟩ : ∃ x, ns.getD j 0 = x := ⟨_, rfl⟩
          rw [hxx] at hc bx HE
          clear hxx
          have bz := zig_bd bx
          have pz := put_ten bz.1 bz.2
          go_wp2_with fail
          refine (zig_any x bx _).mono ?_; rintro e w5 ⟨rfl, rfl⟩
          obtain ⟨z, hz⟩ : ∃ z, zig x = z := ⟨_, rfl⟩
          rw [hz] at bz pz HE
          rw [hz]
          clear hz
          go_wp2_with fail
          refine (size_any z bz.1 bz.2 _).mono ?_; rintro e w6 ⟨rfl, rfl⟩
          obtain ⟨pl, hpl⟩ : ∃ pl, (put z).length = pl := ⟨_, rfl⟩
          rw [hpl] at pz
          rw [hpl]
          have EL : Hid ((zs (ns.take (j + 1))).length = c + pl) := (by rw [HE.out, List.length_append, HC.out, hpl] : (zs (ns.take (j + 1))).length = c + pl)
          clear hpl
          go_wp2_with fail
          go_round
          case rel => exact ⟨j + 1, by omega, by go_num, by rw [EL.out]; simp; omega⟩
          case measure => simp [intOf]; omega
        · obtain rfl : j = 6 := by omega
          have E6 : (zs ns).length = c := by have h := HC.out; rwa [List.take_of_length_le (by rw [HNL.out]; omega)] at h
          obtain ⟨pa, hpa⟩ : ∃ pa, (put a).length = pa := ⟨_, rfl⟩
          have EK2 : n0 = q + 1 + (c + pa) := by rw [EK.out, E6, hpa]
          have HPA : Hid ((put a).length = pa) := hpa
          rw [hpa] at la3
          clear EK E6 hpa
          subst EK2
          go_wp2_with fail
          refine (size_any a a0 (by omega) _).mono ?_; rw [HPA.out]; rintro e w5 ⟨rfl, rfl⟩
          go_wp2_with fail
          refine (rec_alive _).mono ?_; rintro e' W4 ⟨rfl, bb⟩
          have B4 := bup B3 hle bb
          go_wp2_with fail
          go_ret
          exact ⟨ret_bool (by simp; omega), HH.out ▸ B4⟩
  · have e0 : l = [] := by rw [← HL.out]; unfold wrB; rw [if_neg (by rw [HE.out]; exact he)]
    have n00 : n0 = 0 := by rw [← HN0.out, e0]; rfl
    subst n00
    clear HN0 e0 HL HE
    go_wp2_with fail
    refine (rec_alive _).mono ?_; rintro e' W2 ⟨rfl, bb⟩
    have B2 := bup B1 hle bb
    go_wp2_with fail
    go_ret
    exact ⟨rfl, HH.out ▸ B2⟩

set_option maxRecDepth 100000 in
theorem lifted (os : Os) (started : os.Started) (H : Type) (enc : TypeId × Value → H) :
    ReturnsInHanded {} Try.checked os 11 .any (Rows.recordSizesSpec.pre6 enc Try.prog Try.f11 Rows.recordSizesRow.domain false) (Rows.recordSizesSpec.post enc Try.prog Try.f11 false true false false) := by
  refine returnsInHanded_of_change (C := Try.checked) own started (by kernel_rfl) Try.func11
    (ChangeSpec.witness6 (enc := enc) (C := Try.checked) false ⟨#[], #[.agg #[.int .i64 0, .int .i64 0, .int .i64 0, .int .i64 0, .int .i64 0, .int .i64 0, .int .i64 0, .int .i64 0, .int .u16 0], .int .i64 0], []⟩ 8 (by kernel_rfl) (by kernel_rfl) (by kernel_rfl) (by kernel_rfl)) ?_
  intro W base args ds gs before hval0 hW hcnd _
  have hval : ∀ (j : Nat) t v, Try.f11.params[j]? = some t → args[j]? = some v → Value.okWide Try.prog W .any base t v := hval0
  have hW' := hW
  obtain ⟨p, q, hA0, hV, rfl, hfz, hnd⟩ := hW
  have hA : DataW.TrodAll enc Try.prog W 0 (fun _ => true) true Try.f11.params.toList args.toList ds p := hA0
  rw [Try.params11] at hA hval
  obtain ⟨v0, vs0, d0, ds0, p0, q0, hargs, rfl, rfl, h0, r0⟩ := trodAll_cons hA
  obtain ⟨v1, vs1, d1, ds1, p1, q1, rfl, rfl, rfl, h1, r1⟩ := trodAll_cons r0
  obtain ⟨rfl, rfl, rfl⟩ := trodAll_nil r1
  obtain rfl : args = #[v0, v1] := by cases args; simp_all
  obtain ⟨rfl, rfl⟩ := trodVars_none hV
  have hlt := hW'.lt
  have k0 := h0
  obtain ⟨rc0, e0, b0⟩ := open_rec (hval 0 25 v0 rfl rfl) h0
  subst e0
  have k1 := h1
  obtain ⟨a1, rfl, rfl, rfl, w1⟩ := open_int Try.underlying3 (hval 1 3 v1 rfl rfl) h1
  clear hA0 hval0
  refine (walk W rc0 b0 a1 w1).mono fun e W' ⟨he, hg⟩ => ?_
  subst he
  exact ⟨_, rfl, post_of_below hW' (fun _ _ _ => (trodAll_cons_mk (shut_bool Try.underlying4 _) trodAll_mk0)) (trodAll_cons_mk (Below.trod laidOut (by kernel_rfl) (of_decide_eq_true (by kernel_rfl)) k0 hg (fun x hx => by first | exact absurd hx (by simp) | exact hlt x (by simp [hx]))) (trodAll_cons_mk (Below.trod laidOut (by kernel_rfl) (of_decide_eq_true (by kernel_rfl)) k1 hg (fun x hx => by first | exact absurd hx (by simp) | exact hlt x (by simp [hx]))) trodAll_mk0)) rfl hg⟩

theorem over : Rows.recordSizesRow.holds Try.pinned (OpenSpec.ofChange Rows.recordSizesSpec) :=
  OpenClaim.holds_of_wide 11 Try.f11 rfl rfl rfl rfl rfl rfl rfl ⟨rfl, rfl, rfl, rfl, rfl⟩ rfl rfl rfl rfl rfl (by kernel_rfl) Try.func11 (by kernel_rfl)
    (of_decide_eq_true (by kernel_rfl)) (by unfold Func.isWrapper; first | (rw [if_pos (by decide +kernel)]; kernel_rfl) | (rw [if_neg (by decide +kernel)]; exact ⟨rfl, rfl⟩))
    (fun os started H enc _ => lifted os started H enc)
end RecordSizesL

theorem recordSizes_proved : Rows.RecordSizesSaid := RecordSizesL.over
#print axioms recordSizes_proved
end Go.Proofs.Ytjjaodlgnoiheaa
