/-
  Proved: numbers that were put, one behind the other, are taken, and what was taken of any bytes is put again as those (the law ReaderBack answers true at every input).
  Conditions: none.
-/
import Derived.Test.YtnoogdegpkgpdaaRows
import Derived.Test.YtnoogdegpkgpdaaFr7
import Derived.Test.YtnoogdegpkgpdaaRdr6
namespace Go.Proofs.Ytnoogdegpkgpdaa
open Go.ChangeShapes Go.WideShapes Go.ChangeAt Go.RowKit
set_option linter.unusedVariables false

namespace ReaderBackL
theorem own : ownKnob Try.prog.godebug = none := by kernel_rfl

/-- Numbers' bytes, one behind the other. -/
def encz (l : List Int) : List Int := l.flatMap fun x => put (zig x)
theorem encz_snoc (l : List Int) (k : Nat) (h : k < l.length) : encz (l.take (k + 1)) = encz (l.take k) ++ put (zig (l.getD k 0)) := by
  unfold encz; rw [take_snoc' l k h, List.flatMap_append]; simp
theorem encz_drop (l : List Int) (k : Nat) (h : k < l.length) : encz (l.drop k) = put (zig (l.getD k 0)) ++ encz (l.drop (k + 1)) := by
  unfold encz; rw [List.drop_eq_getElem_cons h, List.flatMap_cons]; simp [List.getD, List.getElem?_eq_getElem h]
theorem encz_len : ∀ (l : List Int), (∀ n ∈ l, -9223372036854775808 ≤ n ∧ n ≤ 9223372036854775807) → (encz l).length ≤ 10 * l.length
  | [], _ => by simp [encz]
  | x :: r, h => by
    have h1 := encz_len r (fun n hn => h n (by simp [hn]))
    have h2 := zig_bd (h x (by simp))
    have h3 := put_ten h2.1 h2.2
    unfold encz at h1 ⊢
    rw [List.flatMap_cons, List.length_append, List.length_cons]; omega
theorem encz_ok (l : List Int) (h : ∀ n ∈ l, -9223372036854775808 ≤ n ∧ n ≤ 9223372036854775807) : Bytes (encz l) := by
  intro b hb
  simp only [encz, List.mem_flatMap] at hb
  obtain ⟨x, hx, hb⟩ := hb
  exact put_ok (zig_bd (h x hx)).1 b hb
theorem getD_mem {l : List Int} {k : Nat} (h : k < l.length) : l.getD k 0 ∈ l := by
  have e : l.getD k 0 = l[k] := by simp [List.getD, h]
  rw [e]; exact List.getElem_mem h
theorem int_put {x : Int} (h : -9223372036854775808 ≤ x ∧ x ≤ 9223372036854775807) (r : List Int) (n : Int) : intA ⟨put (zig x) ++ r, n, 0⟩ = x ∧ intS ⟨put (zig x) ++ r, n, 0⟩ = ⟨r, n + (put (zig x)).length, 0⟩ := by
  have hz := zig_bd h
  have hg := got_put hz.1 hz.2 r
  have hne : put (zig x) ++ r ≠ [] := by simp [put_ne]
  have hE : uintE top64 (put (zig x) ++ r) = 0 := by rw [uintE_top, if_neg hne, hg]
  constructor
  · unfold intA uintA; rw [if_pos rfl, if_pos hE, hg]; exact zag_zig x
  · unfold intS uintS; rw [if_pos rfl, if_pos hE, hg]; simp
theorem int_back {l : List Int} (hb : Bytes l) (n : Int) : (uintE top64 l ≠ 0 ∧ intS ⟨l, n, 0⟩ = ⟨l, n, uintE top64 l⟩) ∨
    (∃ k : Nat, 1 ≤ k ∧ k ≤ l.length ∧ intS ⟨l, n, 0⟩ = ⟨l.drop k, n + k, 0⟩ ∧ put (zig (intA ⟨l, n, 0⟩)) = l.take k ∧ (-9223372036854775808 ≤ intA ⟨l, n, 0⟩ ∧ intA ⟨l, n, 0⟩ ≤ 9223372036854775807)) := by
  by_cases hE : uintE top64 l = 0
  · right
    have hl : l ≠ [] := by intro h; rw [uintE_top, if_pos h] at hE; omega
    have hg : (got l).2.2 = 0 := by rw [uintE_top, if_neg hl] at hE; exact hE
    obtain ⟨g, hgg⟩ : ∃ g, got l = g := ⟨_, rfl⟩
    obtain ⟨z, k, e⟩ := g
    rw [hgg] at hg
    simp only at hg
    subst hg
    obtain ⟨h1, h2, m, rfl, m1, m2, m3⟩ := put_got hb z k hgg
    have hA : intA ⟨l, n, 0⟩ = zag z := by unfold intA uintA; rw [if_pos rfl, if_pos hE, hgg]
    refine ⟨m, m1, m2, ?_, ?_, ?_⟩
    · unfold intS uintS; rw [if_pos rfl, if_pos hE, hgg]; simp
    · rw [hA, zig_zag h1]; exact m3
    · rw [hA]; exact zag_bd ⟨h1, h2⟩
  · left
    refine ⟨hE, ?_⟩
    unfold intS uintS; rw [if_pos rfl, if_neg hE]
theorem Own.nilS (w : World) (B : Nat) : Go.Proofs.Ytnoogdegpkgpdaa.Own w B (.slice none 0 0) [] := Go.Proofs.Ytnoogdegpkgpdaa.Own.nil w B
theorem cut_rd {w : World} {ao : Option Addr} {m cap : Nat} {l : List Int} (h : Rd w (.slice ao m cap) l) (k : Nat) (hk : k ≤ l.length) : Rd w (.slice ao k cap) (l.take k) := by
  obtain ⟨ao', cap', e, h1, h2, h3, h4⟩ := h
  injection e with e1 e2 e3
  subst e1 e3
  have hlen : (l.take k).length = k := List.length_take_of_le hk
  refine ⟨ao, cap, by rw [hlen], by omega, h2, h3, ?_⟩
  rcases h4 with h | ⟨b, o, h, hat⟩
  · left; rw [h]; simp
  · exact Or.inr ⟨b, o, h, hat.take k⟩
set_option maxRecDepth 4000 in
set_option maxHeartbeats 2000000 in
theorem walk (w : World) (v : Value) (l : List Int) (hb : ∀ n ∈ l, -9223372036854775808 ≤ n ∧ n ≤ 9223372036854775807) (h : RdI w v l) (vb : Value) (lb : List Int) (hbb : Bytes lb) (hr : Rd w vb lb) :
    Calls Try.prog 5 #[v, vb] w fun e w' => e = .returned (.bool true) ∧ Below w.heap.size w w' := by
  have HR : Hid (Rd w vb lb) := hr
  have HBB : Hid (Bytes lb) := hbb
  have HB : Hid (∀ n ∈ l, -9223372036854775808 ≤ n ∧ n ≤ 9223372036854775807) := hb
  clear hb hbb
  obtain ⟨ao, cap, rfl, hc, hm, h3⟩ := h
  have H3 : Hid _ := h3
  obtain ⟨aob, capb, rfl, q1, q2, q3, q4⟩ := hr
  obtain ⟨n, hn⟩ : ∃ n, l.length = n := ⟨_, rfl⟩
  obtain ⟨m, hmm⟩ : ∃ m, lb.length = m := ⟨_, rfl⟩
  rw [hn] at hc ⊢
  rw [hmm] at q1 HR ⊢
  have HN : Hid (l.length = n) := hn
  have HM : Hid (lb.length = m) := hmm
  have Q3 : Hid _ := q3
  clear hn hmm q3 q4 h3
  obtain ⟨K, hK⟩ : ∃ K, w.heap.size = K := ⟨_, rfl⟩
  by_cases hbig : 200 < n ∨ 1000 < m
  · go_enter Try.func5, Try.ntmps5
    go_wp2_with fail
    refine (ralive_any _).mono ?_; rw [hK]; rintro e w2 ⟨rfl, b2⟩
    by_cases hbig2 : 200 < n
    · have d1 : decide ((200 : Int) < (n : Int)) = true := by simp; omega
      go_wp2_with fail
      refine (ralive_any _).mono ?_; rintro e w3 ⟨rfl, b4⟩
      have b5 : Below K w w3 := b2.trans (b4.mono (by have := b2.size; omega))
      go_wp2_with fail
      go_ret
      exact ⟨rfl, by rw [hK]; exact b5⟩
    · have d1 : decide ((200 : Int) < (n : Int)) = false := by simp; omega
      have d2 : decide ((1000 : Int) < (m : Int)) = true := by simp; omega
      go_wp2_with fail
      refine (ralive_any _).mono ?_; rintro e w3 ⟨rfl, b4⟩
      have b5 : Below K w w3 := b2.trans (b4.mono (by have := b2.size; omega))
      go_wp2_with fail
      go_ret
      exact ⟨rfl, by rw [hK]; exact b5⟩
  · have d1 : decide ((200 : Int) < (n : Int)) = false := by simp; omega
    have d2 : decide ((1000 : Int) < (m : Int)) = false := by simp; omega
    have n200 : n ≤ 200 := by omega
    have m1000 : m ≤ 1000 := by omega
    go_enter Try.func5, Try.ntmps5
    go_wp2_with fail
    refine (ralive_any _).mono ?_; rw [hK]; rintro e w2 ⟨rfl, b2⟩
    go_wp2_with fail
    clear d1 d2 hbig
    go_loopg [30, 5] n (fun g i u wr => ∃ k : Nat, k + g = n ∧ i = .int .i64 k ∧ Own wr K u (encz (l.take k)) ∧ Below K w wr)
    case atStart => exact ⟨0, by omega, rfl, by simpa [encz] using Own.nilS w2 K, b2⟩
    case round =>
      clear b2
      obtain ⟨k, hk, rfl, hown, hbl⟩ := hrel
      have HO : Hid (Own wr K u5 (encz (l.take k))) := hown
      clear hown
      by_cases hlt : k < n
      · have hl : l ≠ [] := by intro h; rw [h] at HN; have := HN.out; simp at this; omega
        obtain ⟨b, o, rfl, hat⟩ := H3.out.resolve_left hl
        have hcell := hat k (by rw [HN.out]; exact hlt)
        have hblt : b < K := by have := World.block_lt_of_cell? w _ hcell; simp only at this; omega
        have hcell2 : wr.cell? ⟨b, o + k, none⟩ = some (.int .i64 (l.getD k 0)) := (hbl.cell (p := ⟨b, o + k, none⟩) hblt).trans hcell
        obtain ⟨x, hx⟩ : ∃ x, l.getD k 0 = x := ⟨_, rfl⟩
        have bx := HB.out (l.getD k 0) (getD_mem (by rw [HN.out]; exact hlt))
        rw [hx] at hcell2 bx
        have HE : Hid (encz (l.take (k + 1)) = encz (l.take k) ++ put (zig x)) := by rw [← hx]; exact encz_snoc l k (by rw [HN.out]; exact hlt)
        have HL : (encz (l.take k)).length ≤ 2000 := by
          have h1 := encz_len (l.take k) (fun n hn => HB.out n (List.mem_of_mem_take hn))
          have h2 : (l.take k).length ≤ k := List.length_take_le _ _
          omega
        have zb := zig_bd bx
        obtain ⟨x0, x1⟩ := bx
        clear hx hcell hat hl
        go_wp2_with fail
        refine (zig_any x ⟨x0, x1⟩ _).mono ?_; rintro e w0 ⟨rfl, rfl⟩
        go_wp2_with fail
        refine (put_any (zig x) zb.1 zb.2 _).mono ?_; rintro e w1 ⟨u1', rfl, own1, b1⟩
        have O1 := Own.below HO.out b1
        have l1 := put_ten zb.1 zb.2
        have s1 := hbl.size
        have s2 := b1.size
        go_wp2_with (at_builtin; refine app_wp rfl _ _ rfl K _ (encz (l.take k)) rfl (by exact O1) _ (put (zig x)) rfl (by exact own1.rd) (by omega) (by omega) ?_; intro v2 w3 own2 b3)
        go_roundg (gk - 1)
        case measure => omega
        case rel => exact ⟨k + 1, by omega, by go_num, by rw [HE.out]; exact own2, (hbl.trans (b1.mono (by omega))).trans b3⟩
      · obtain rfl : k = n := by omega
        rw [List.take_of_length_le (by rw [HN.out]; omega)] at HO
        have hRd : Rd wr u5 (encz l) := Own.rd HO.out
        have HRd : Hid (Rd wr u5 (encz l)) := hRd
        have tot := encz_len l HB.out
        obtain ⟨T, hT⟩ : ∃ T, (encz l).length = T := ⟨_, rfl⟩
        have HT : Hid ((encz l).length = T) := hT
        rw [hT, HN.out] at tot
        obtain ⟨aoa, capa, rfl, ca1, ca2, ca3, ca4⟩ := hRd
        rw [hT] at HRd ca1 ⊢
        clear HO hT ca3 ca4
        obtain ⟨R, hR⟩ : ∃ R, wr.heap.size = R := ⟨_, rfl⟩
        have hKR : K ≤ R := by have := hbl.size; omega
        go_wp2_with fail
        refine (new_any _ _ (encz l) (encz_ok l HB.out) HRd.out).mono ?_; rw [hR]; rintro e w3 ⟨rfl, r3, b3, s3⟩
        have b4 := hbl.trans (b3.mono hKR)
        have R3 : Hid (Rdr w3 R R ⟨encz l, 0, 0⟩) := r3
        clear r3 b3 hbl
        go_wp2_with fail
        clear hk hlt
        go_loopg [46] k (fun g i wr => ∃ (j : Nat) (n' : Int), j + g = k ∧ i = .int .i64 j ∧ Rdr wr R R ⟨encz (l.drop j), n', 0⟩ ∧ n' + (encz (l.drop j)).length = T ∧ Below K w wr)
        case atStart => exact ⟨0, 0, by omega, rfl, R3.out, by rw [List.drop_zero, HT.out]; omega, b4⟩
        case round =>
          clear b4 R3 s3 hR
          obtain ⟨j, n', hj, rfl, hr, hsum, hbl⟩ := hrel
          by_cases hlt : j < k
          · have hl : l ≠ [] := by intro h; rw [h] at HN; have := HN.out; simp at this; omega
            obtain ⟨b, o, rfl, hat⟩ := H3.out.resolve_left hl
            have hcell := hat j (by rw [HN.out]; exact hlt)
            have hblt : b < K := by have := World.block_lt_of_cell? w _ hcell; simp only at this; omega
            have hcell2 : wr.cell? ⟨b, o + j, none⟩ = some (.int .i64 (l.getD j 0)) := (hbl.cell (p := ⟨b, o + j, none⟩) hblt).trans hcell
            obtain ⟨x, hx⟩ : ∃ x, l.getD j 0 = x := ⟨_, rfl⟩
            have bx := HB.out (l.getD j 0) (getD_mem (by rw [HN.out]; exact hlt))
            rw [hx] at hcell2 bx
            rw [encz_drop l j (by rw [HN.out]; exact hlt), hx] at hr hsum
            have HI : Hid _ := int_put bx (encz (l.drop (j + 1))) n'
            have HS : Hid (n' + ((put (zig x) ++ encz (l.drop (j + 1))).length : Int) = T) := hsum
            have R4 : Hid (Rdr wr R R ⟨put (zig x) ++ encz (l.drop (j + 1)), n', 0⟩) := hr
            clear hr hsum hx hcell hat hl
            go_wp2_with fail
            refine (int_any _ _ _ _ R4.out).mono ?_; rw [HI.out.1, HI.out.2]; rintro e w5 ⟨rfl, r5, g5⟩
            have b5 := Ch.up hbl g5 hKR
            go_wp2_with fail
            go_roundg (gk - 1)
            case measure => omega
            case rel => exact ⟨j + 1, _, by omega, by go_num, r5, by have := HS.out; rw [List.length_append] at this; omega, b5⟩
          · obtain rfl : j = k := by omega
            have he : encz (l.drop j) = [] := by rw [List.drop_of_length_le (by rw [HN.out]; omega)]; rfl
            rw [he] at hr hsum
            have hn' : n' = T := by simpa using hsum
            subst hn'
            have R4 : Hid (Rdr wr R R ⟨[], (T : Int), 0⟩) := hr
            clear hr hsum he hj hlt
            go_wp2_with fail
            refine (done_any _ _ _ _ R4.out).mono ?_; rw [show doneA ⟨[], (T : Int), 0⟩ = 0 by rfl]; rintro e w5 ⟨rfl, rfl⟩
            go_wp2_with fail
            refine (at_any _ _ _ _ R4.out).mono ?_; simp only; rintro e w5 ⟨rfl, rfl⟩
            go_wp2_with fail
            refine (left_any _ _ _ _ R4.out).mono ?_; simp only [List.length_nil]; rintro e w5 ⟨rfl, rfl⟩
            clear R4
            have HR5 : Hid (Rd w5 (.slice aob m capb) lb) := HR.out.below (by rw [hK]; exact hbl)
            obtain ⟨S, hS⟩ : ∃ S, w5.heap.size = S := ⟨_, rfl⟩
            have hKS : K ≤ S := by have := hbl.size; omega
            go_wp2_with fail
            refine (new_any _ _ lb HBB.out HR5.out).mono ?_; rw [hS]; rintro e w6 ⟨rfl, r6, b6, s6⟩
            have b7 := hbl.trans (b6.mono hKS)
            have R6 : Hid (Rdr w6 S S ⟨lb, 0, 0⟩) := r6
            clear r6 b6 hbl HR5
            go_wp2_with fail
            go_loopg [75, 12] (m + 1) (fun g i u wr => ∃ (q : Nat) (n' : Nat), q + g = m + 1 ∧ i = .int .i64 q ∧ n' ≤ m ∧ Rdr wr S S ⟨lb.drop n', n', 0⟩ ∧ Own wr (S + 1) u (lb.take n') ∧ Below K w wr)
            case atStart => exact ⟨0, 0, by omega, rfl, by omega, R6.out, by simpa using Own.nilS w6 (S + 1), b7⟩
            case round =>
              clear b7 R6 s6 hS
              obtain ⟨q, n', hq, rfl, hn', hr, hown, hbl⟩ := hrel
              have R7 : Hid (Rdr wr S S ⟨lb.drop n', (n' : Int), 0⟩) := hr
              have HO : Hid (Own wr (S + 1) u12 (lb.take n')) := hown
              have HD : Hid (Bytes (lb.drop n')) := HBB.out.drop n'
              clear hr hown
              by_cases hlt : q < m + 1
              · have hlt' : (q : Int) < (m : Int) + 1 := by omega
                rcases int_back HD.out (n' : Int) with ⟨hE, hI⟩ | ⟨kk, k1, k2, hI, hP, hA⟩
                · have HI : Hid _ := hI
                  obtain ⟨ee, hee⟩ : ∃ ee, uintE top64 (lb.drop n') = ee := ⟨_, rfl⟩
                  rw [hee] at HI hE
                  have hEE : (ee == 0) = false := by simpa using hE
                  clear hI hee
                  go_wp2_with fail
                  refine (int_any _ _ _ _ R7.out).mono ?_; rw [HI.out]; rintro e w8 ⟨rfl, r8, g8⟩
                  have R8 : Hid (Rdr w8 S S ⟨lb.drop n', (n' : Int), ee⟩) := r8
                  have O8 : Hid (Own w8 (S + 1) u12 (lb.take n')) := HO.out.ch g8 (by omega)
                  have b8 := Ch.up hbl g8 hKS
                  clear r8 g8 R7 HO hbl
                  go_wp2_with fail
                  refine (err_any _ _ _ _ R8.out).mono ?_; simp only; rintro e w9 ⟨rfl, rfl⟩
                  go_wp2_with fail
                  refine (at_any _ _ _ _ R8.out).mono ?_; simp only; rintro e w9 ⟨rfl, rfl⟩
                  have st1 : ∀ N, (convert 22 9 u12).run Try.prog (w9.drewN N) = .ok (.string (strOfNums (lb.take n'))) (w9.drewN N) := fun N => str_run (O8.out.rd.below (below_drewN (Below.refl _ _) N))
                  have st2 : ∀ N, (convert 22 9 (.slice aob n' capb)).run Try.prog (w9.drewN N) = .ok (.string (strOfNums (lb.take n'))) (w9.drewN N) := fun N => str_run (cut_rd (HR.out.below (by rw [hK]; exact below_drewN b8 N)) n' (by rw [HM.out]; exact hn'))
                  have dd : decide ((n' : Int) ≤ (m : Int)) = true := by simp; omega
                  have dn : ¬ (capb : Int) < (n' : Int) := by omega
                  have Q4 := Q3.out
                  clear R8 O8
                  go_wp2_with fail
                  rcases aob with _ | aa
                  · have c0 : capb = 0 := Q4 rfl
                    subst c0
                    have m0 : m = 0 := by omega
                    subst m0
                    have p0 : n' = 0 := by omega
                    subst p0
                    clear Q4
                    go_quiet (fail)
                    go_wp2_with fail
                    go_ret
                    refine ⟨rfl, ?_⟩
                    (try rw [hK]); exact below_drewN b8 _
                  · obtain ⟨ab, aoff, spot⟩ := aa
                    clear Q4
                    go_quiet (fail)
                    go_wp2_with fail
                    go_ret
                    refine ⟨rfl, ?_⟩
                    (try rw [hK]); exact below_drewN b8 _
                · obtain ⟨x, hx⟩ : ∃ x, intA ⟨lb.drop n', (n' : Int), 0⟩ = x := ⟨_, rfl⟩
                  rw [hx] at hP hA
                  have HI : Hid _ := hI
                  have HP : Hid _ := hP
                  have HX : Hid _ := hx
                  have zb := zig_bd hA
                  rw [List.length_drop, HM.out] at k2
                  clear hI hP hx
                  go_wp2_with fail
                  refine (int_any _ _ _ _ R7.out).mono ?_; rw [HI.out, HX.out]; rintro e w8 ⟨rfl, r8, g8⟩
                  have R8 : Hid (Rdr w8 S S ⟨(lb.drop n').drop kk, (n' : Int) + kk, 0⟩) := r8
                  have O8 : Hid (Own w8 (S + 1) u12 (lb.take n')) := HO.out.ch g8 (by omega)
                  have b8 := Ch.up hbl g8 hKS
                  have l8 := r8.lt
                  clear r8 g8 R7 HO hbl
                  go_wp2_with fail
                  refine (err_any _ _ _ _ R8.out).mono ?_; simp only; rintro e w9 ⟨rfl, rfl⟩
                  go_wp2_with fail
                  refine (zig_any x hA _).mono ?_; rintro e w9' ⟨rfl, rfl⟩
                  go_wp2_with fail
                  refine (put_any (zig x) zb.1 zb.2 _).mono ?_; rw [HP.out]; rintro e w10 ⟨u1', rfl, own1, b10⟩
                  have O10 := Own.below O8.out b10
                  have R10 := R8.out.below b10 l8
                  have s10 := b10.size
                  have t1 : (lb.take n').length ≤ 1000 := by have := List.length_take_le n' lb; omega
                  have t2 : ((lb.drop n').take kk).length ≤ 1000 := by have := List.length_take_le kk (lb.drop n'); omega
                  go_wp2_with (at_builtin; refine app_wp rfl _ _ rfl (S + 1) _ (lb.take n') rfl (by exact O10) _ ((lb.drop n').take kk) rfl (by exact own1.rd) (by omega) (by omega) ?_; intro v2 w11 own2 b11)
                  go_roundg (gk - 1)
                  case measure => omega
                  case rel =>
                    refine ⟨q + 1, n' + kk, by omega, by go_num, by omega, ?_, ?_, (b8.trans (b10.mono (by omega))).trans (b11.mono (by omega))⟩
                    · have := R10.below b11 (by omega)
                      rw [List.drop_drop] at this
                      simpa using this
                    · rw [List.take_add]; exact own2
              · have hlt' : ¬ (q : Int) < (m : Int) + 1 := by omega
                go_wp2_with fail
                refine (at_any _ _ _ _ R7.out).mono ?_; simp only; rintro e w9 ⟨rfl, rfl⟩
                have st1 : ∀ N, (convert 22 9 u12).run Try.prog (w9.drewN N) = .ok (.string (strOfNums (lb.take n'))) (w9.drewN N) := fun N => str_run (HO.out.rd.below (below_drewN (Below.refl _ _) N))
                have st2 : ∀ N, (convert 22 9 (.slice aob n' capb)).run Try.prog (w9.drewN N) = .ok (.string (strOfNums (lb.take n'))) (w9.drewN N) := fun N => str_run (cut_rd (HR.out.below (by rw [hK]; exact below_drewN hbl N)) n' (by rw [HM.out]; exact hn'))
                have dd : decide ((n' : Int) ≤ (m : Int)) = true := by simp; omega
                have dn : ¬ (capb : Int) < (n' : Int) := by omega
                have Q4 := Q3.out
                clear R7 HO
                go_wp2_with fail
                rcases aob with _ | aa
                · have c0 : capb = 0 := Q4 rfl
                  subst c0
                  have m0 : m = 0 := by omega
                  subst m0
                  have p0 : n' = 0 := by omega
                  subst p0
                  clear Q4
                  go_quiet (fail)
                  go_wp2_with fail
                  go_ret
                  refine ⟨rfl, ?_⟩
                  (try rw [hK]); exact below_drewN hbl _
                · obtain ⟨ab, aoff, spot⟩ := aa
                  clear Q4
                  go_quiet (fail)
                  go_wp2_with fail
                  go_ret
                  refine ⟨rfl, ?_⟩
                  (try rw [hK]); exact below_drewN hbl _

set_option maxRecDepth 100000 in
theorem lifted (os : Os) (started : os.Started) (H : Type) (enc : TypeId × Value → H) :
    ReturnsInHanded {} Try.checked os 5 .any (Rows.readerBackSpec.pre6 enc Try.prog Try.f5 Rows.readerBackRow.domain false) (Rows.readerBackSpec.post enc Try.prog Try.f5 false true false false) := by
  refine returnsInHanded_of_change (C := Try.checked) own started (by kernel_rfl) Try.func5
    (ChangeSpec.witness6 (enc := enc) (C := Try.checked) false ⟨#[], #[.slice none 0 0, .slice none 0 0], []⟩ 8 (by kernel_rfl) (by kernel_rfl) (by kernel_rfl) (by kernel_rfl)) ?_
  intro W base args ds gs before hval0 hW hcnd _
  have hval : ∀ (j : Nat) t v, Try.f5.params[j]? = some t → args[j]? = some v → Value.okWide Try.prog W .any base t v := hval0
  have hW' := hW
  obtain ⟨p, q, hA0, hV, rfl, hfz, hnd⟩ := hW
  have hA : DataW.TrodAll enc Try.prog W 0 (fun _ => true) true Try.f5.params.toList args.toList ds p := hA0
  rw [Try.params5] at hA hval
  obtain ⟨v0, vs0, d0, ds0, p0, q0, hargs, rfl, rfl, h0, r0⟩ := trodAll_cons hA
  obtain ⟨v1, vs1, d1, ds1, p1, q1, rfl, rfl, rfl, h1, r1⟩ := trodAll_cons r0
  obtain ⟨rfl, rfl, rfl⟩ := trodAll_nil r1
  obtain rfl : args = #[v0, v1] := by cases args; simp_all
  obtain ⟨rfl, rfl⟩ := trodVars_none hV
  have hlt := hW'.lt
  have k0 := h0
  obtain ⟨l0, b0, e0⟩ := open_i64s (hval 0 45 v0 rfl rfl) h0
  have k1 := h1
  obtain ⟨l1, b1, e1⟩ := open_u8s (hval 1 22 v1 rfl rfl) h1
  clear hA0 hval0
  refine (walk W v0 l0 b0 e0 v1 l1 b1 e1).mono fun e W' ⟨he, hg⟩ => ?_
  subst he
  exact ⟨_, rfl, post_of_below hW' (fun _ _ _ => (trodAll_cons_mk (shut_bool Try.underlying4 _) trodAll_mk0)) (trodAll_cons_mk (Below.trod laidOut (by kernel_rfl) (of_decide_eq_true (by kernel_rfl)) k0 hg (fun x hx => by first | exact absurd hx (by simp) | exact hlt x (by simp [hx]))) (trodAll_cons_mk (Below.trod laidOut (by kernel_rfl) (of_decide_eq_true (by kernel_rfl)) k1 hg (fun x hx => by first | exact absurd hx (by simp) | exact hlt x (by simp [hx]))) trodAll_mk0)) rfl hg⟩

theorem over : Rows.readerBackRow.holds Try.pinned (OpenSpec.ofChange Rows.readerBackSpec) :=
  OpenClaim.holds_of_wide 5 Try.f5 rfl rfl rfl rfl rfl rfl rfl ⟨rfl, rfl, rfl, rfl, rfl⟩ rfl rfl rfl rfl rfl (by kernel_rfl) Try.func5 (by kernel_rfl)
    (of_decide_eq_true (by kernel_rfl)) (by unfold Func.isWrapper; first | (rw [if_pos (by decide +kernel)]; kernel_rfl) | (rw [if_neg (by decide +kernel)]; exact ⟨rfl, rfl⟩))
    (fun os started H enc _ => lifted os started H enc)
end ReaderBackL

theorem readerBack_proved : Rows.ReaderBackSaid := ReaderBackL.over
#print axioms readerBack_proved
end Go.Proofs.Ytnoogdegpkgpdaa
