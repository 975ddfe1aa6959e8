/- Several texts in one. -/
import Derived.Test.YtoaiblhlpdaeoaaPart18
import Derived.Test.YtoaiblhlpdaeoaaBase1
import Derived.Test.YtoaiblhlpdaeoaaPart2
import Derived.Test.YtoaiblhlpdaeoaaPart1
import Derived.Test.YtoaiblhlpdaeoaaPart8
import Derived.Test.YtoaiblhlpdaeoaaPart15
import Derived.Test.YtoaiblhlpdaeoaaPart4
/- timbtop.equal: a fact about the word problem. -/
namespace Go.Proofs.Ytoaiblhlpdaeoaa
set_option linter.unusedVariables false
set_option linter.unusedSimpArgs false
open Go.RowKit Gar

theorem gp_121 : gp 3 [1, 2, 1] = gp 3 [2, 1, 2] := gp_nb (n := 3) (i := 0) (j := 1) (.inl rfl) (by omega) (by omega)
theorem art_12 : eqA 3 [1, 2] [2, 1] = false ∧ eqE 3 [1, 2] [2, 1] = 0 := by decide +kernel

set_option maxRecDepth 100000 in
set_option maxHeartbeats 2000000 in
theorem equal_top (F : GarC) (G : ArtinC) (w : World) : Calls Try.prog 35 #[] w fun e w' => e = .returned (.bool true) ∧ Below w.heap.size w w' := by
  have HF := hide F
  have HG := hide G
  clear F G
  have hnf := Bool.not_false
  go_enter Try.func35, Try.ntmps35
  have L1 := SL.lit w [1, 2, 1] (by decide) (cs := #[.int .i64 1, .int .i64 2, .int .i64 1]) rfl (m := 3) rfl
  have hal : Below w.heap.size w (w.alloc (.cells #[.int .i64 1, .int .i64 2, .int .i64 1] 3)) := (Below.refl _ _).alloc (Nat.le_refl _) _
  have L2 := SL.lit (w.alloc (.cells #[.int .i64 1, .int .i64 2, .int .i64 1] 3)) [2, 1, 2] (by decide) (cs := #[.int .i64 2, .int .i64 1, .int .i64 2]) rfl (m := 3) rfl
  have hal2 : Below (w.alloc (.cells #[.int .i64 1, .int .i64 2, .int .i64 1] 3)).heap.size (w.alloc (.cells #[.int .i64 1, .int .i64 2, .int .i64 1] 3)) ((w.alloc (.cells #[.int .i64 1, .int .i64 2, .int .i64 1] 3)).alloc (.cells #[.int .i64 2, .int .i64 1, .int .i64 2] 3)) := (Below.refl _ _).alloc (Nat.le_refl _) _
  have M1 := hide (L1.below hal2)
  rw [World.size_alloc] at L2
  have M2 := hide L2
  have HW := hide (hal.trans (hal2.mono hal.size))
  clear L1 L2 hal hal2
  go_wp2_with fail
  refine (HF.out.equal 3 _ 3 3 _ _ 3 3 _ _ M1.out M2.out (by decide)).mono ?_
  rintro e w1 ⟨rfl, hb⟩
  rw [show geqB 3 [1, 2, 1] [2, 1, 2] = true from geq_yes (n := 3) (by decide) (by decide) gp_121, show eq2E 3 [1, 2, 1] [2, 1, 2] = 0 from by decide]
  replace HW := hide (HW.out.trans (hb.mono HW.out.size))
  clear hb M1 M2
  have L1 := SL.lit w1 [1, 2] (by decide) (cs := #[.int .i64 1, .int .i64 2]) rfl (m := 2) rfl
  have hal : Below w1.heap.size w1 (w1.alloc (.cells #[.int .i64 1, .int .i64 2] 3)) := (Below.refl _ _).alloc (Nat.le_refl _) _
  have L2 := SL.lit (w1.alloc (.cells #[.int .i64 1, .int .i64 2] 3)) [2, 1] (by decide) (cs := #[.int .i64 2, .int .i64 1]) rfl (m := 2) rfl
  have hal2 : Below (w1.alloc (.cells #[.int .i64 1, .int .i64 2] 3)).heap.size (w1.alloc (.cells #[.int .i64 1, .int .i64 2] 3)) ((w1.alloc (.cells #[.int .i64 1, .int .i64 2] 3)).alloc (.cells #[.int .i64 2, .int .i64 1] 3)) := (Below.refl _ _).alloc (Nat.le_refl _) _
  have M1 := hide (L1.below hal2)
  rw [World.size_alloc] at L2
  have M2 := hide L2
  have HW1 := hide (HW.out.trans ((hal.trans (hal2.mono hal.size)).mono HW.out.size))
  clear L1 L2 hal hal2
  go_wp2_with fail
  refine (HG.out.equal 3 _ 2 2 _ _ 2 2 _ _ M1.out M2.out (by decide)).mono ?_
  rintro e w2 ⟨rfl, hb⟩
  rw [art_12.1, art_12.2]
  replace HW1 := hide (HW1.out.trans (hb.mono HW1.out.size))
  clear hb M1 M2
  go_wp2_with fail
  go_ret
  exact ⟨rfl, HW1.out⟩
end Go.Proofs.Ytoaiblhlpdaeoaa
/- FOX, ARTIN, BURAU: the derivatives of the images are the elements of the Burau matrix. -/
namespace Go.Proofs.Ytoaiblhlpdaeoaa
set_option linter.unusedVariables false
set_option linter.unusedSimpArgs false
open LP CR

theorem expo_invw : ∀ w : List Int, LP.expo (invw w) = -LP.expo w
  | [] => rfl
  | x :: w => by
    rw [invw_cons, LP.expo_append, LP.expo_cons, LP.expo_cons, LP.expo_nil, expo_invw w, Int.sign_neg]
    omega
theorem term_add (e c d : Int) : LP.term e c + LP.term e d = LP.term e (c + d) := LP.ext fun k => by
  rw [LP.co_add, LP.co_term, LP.co_term, LP.co_term]
  split <;> omega
theorem term_zero (e : Int) : LP.term e 0 = 0 := LP.ext fun k => by
  rw [LP.co_term, LP.co_zero]
  split <;> rfl
theorem dx_other {i x : Int} (h1 : x ≠ i) (h2 : x ≠ -i) : LP.dx i x = 0 := by unfold LP.dx; rw [if_neg h1, if_neg h2]
theorem dx_self (i : Int) : LP.dx i i = 1 := if_pos rfl
theorem dx_neg {i : Int} (h : 0 < i) : LP.dx i (-i) = LP.term (-1) (-1) := by unfold LP.dx; rw [if_neg (by omega), if_pos rfl]
theorem foxT_pair {i x : Int} (hi : 0 < i) (hx : x ≠ 0) : LP.foxT i [x, -x] = 0 := by
  show LP.dx i x + LP.term (Int.sign x) 1 * LP.foxT i [-x] = 0
  rw [LP.foxT_one]
  by_cases h1 : x = i
  · subst h1
    rw [dx_self, dx_neg hi, Int.sign_eq_one_of_pos hi, LP.term_mul]
    exact CR.add_neg 1
  · by_cases h2 : x = -i
    · subst h2
      rw [Int.neg_neg, dx_self, dx_neg hi, Int.sign_eq_neg_one_of_neg (by omega), CR.mul_one, term_add]
      exact term_zero _
    · rw [dx_other h1 h2, dx_other (by omega) (by omega), CR.mul_zero, CR.add_zero]
theorem foxT_del {i : Int} (hi : 0 < i) {a b : List Int} (h : Del a b) (ha : nz a) : LP.foxT i a = LP.foxT i b ∧ LP.expo a = LP.expo b := by
  obtain ⟨p, x, s, rfl, rfl⟩ := h
  have hx : x ≠ 0 := ha x (by simp)
  have e : x :: -x :: s = [x, -x] ++ s := rfl
  have e2 : LP.expo [x, -x] = 0 := by
    rw [LP.expo_cons, LP.expo_cons, LP.expo_nil, Int.sign_neg]
    omega
  constructor
  · rw [e, LP.foxT_append, LP.foxT_append i s [x, -x], foxT_pair hi hx, e2, LP.foxT_append, LP.term_one, CR.one_mul, CR.zero_add]
  · rw [e, LP.expo_append, LP.expo_append [x, -x], e2, LP.expo_append, Int.zero_add]
theorem foxT_dels {i : Int} (hi : 0 < i) {a b : List Int} (h : Dels a b) : nz a → LP.foxT i a = LP.foxT i b ∧ LP.expo a = LP.expo b := by
  induction h with
  | refl => intro _; exact ⟨rfl, rfl⟩
  | step d _ ih => intro ha; exact ⟨(foxT_del hi d ha).1.trans (ih (d.nz ha)).1, (foxT_del hi d ha).2.trans (ih (d.nz ha)).2⟩
/-- Derivatives don't depend on how a word is written. -/
theorem foxT_nf {i : Int} (hi : 0 < i) {a : List Int} (ha : nz a) : LP.foxT i (nf a) = LP.foxT i a := ((foxT_dels hi (dels_nf a) ha).1).symm
theorem foxT_invw {i : Int} (hi : 0 < i) {a : List Int} (ha : nz a) : LP.foxT i (invw a) = -(LP.term (-LP.expo a) 1 * LP.foxT i a) := by
  have h1 : LP.foxT i (invw a ++ a) = 0 := by
    rw [← foxT_nf hi ((nz.inv ha).app ha), show nf (invw a ++ a) = [] from nf_inv_mul a]
    rfl
  rw [LP.foxT_append, expo_invw] at h1
  have h2 : LP.foxT i (invw a) + LP.term (-LP.expo a) 1 * LP.foxT i a + -(LP.term (-LP.expo a) 1 * LP.foxT i a) = -(LP.term (-LP.expo a) 1 * LP.foxT i a) := by rw [h1, CR.zero_add]
  rwa [CR.add_assoc, CR.add_neg, CR.add_zero] at h2
theorem expo_artV {y z : Int} (hy : y ≠ 0) (hz : z ≠ 0) : LP.expo (artV y z) = 1 := by
  have s1 : ∀ k : Nat, 0 < k → Int.sign (k : Int) = 1 := fun k hk => Int.sign_eq_one_of_pos (by omega)
  unfold artV
  have hy1 : (0 : Int) < (y.natAbs : Int) := by omega
  have hz1 : (0 : Int) < (z.natAbs : Int) := by omega
  split <;> split <;> (try split) <;> simp only [LP.expo_cons, LP.expo_nil] <;> simp only [Int.sign_neg, Int.sign_eq_one_of_pos hy1, Int.sign_eq_one_of_pos hz1, Int.sign_eq_one_of_pos (show (0 : Int) < (y.natAbs : Int) + 1 by omega), Int.sign_eq_neg_one_of_neg (show -(y.natAbs : Int) - 1 < 0 by omega)] <;> omega
theorem expo_artL {y z : Int} (hy : y ≠ 0) (hz : z ≠ 0) : LP.expo (artL y z) = Int.sign z := by
  unfold artL
  split
  · next h => rw [expo_invw, expo_artV hy hz, Int.sign_eq_neg_one_of_neg h]
  · next h => rw [expo_artV hy hz, Int.sign_eq_one_of_pos (by omega)]
theorem expo_artW {y : Int} (hy : y ≠ 0) : ∀ {u : List Int}, nz u → LP.expo (artW y u) = LP.expo u
  | [], _ => rfl
  | z :: u, hu => by rw [artW_cons, LP.expo_append, expo_artL hy (hu z (by simp)), expo_artW hy (fun x hx => hu x (by simp [hx])), LP.expo_cons]
theorem expo_artC : ∀ {w u : List Int}, nz w → nz u → LP.expo (artC w u) = LP.expo u
  | [], _, _, _ => rfl
  | y :: w, u, hw, hu => by
    have hy : y ≠ 0 := hw y (by simp)
    rw [artC_cons, expo_artC (fun x hx => hw x (by simp [hx])) (artW_nz hy hu), expo_artW hy hu]
theorem sumN_dx {n : Nat} {z : Int} (h0 : z ≠ 0) (hz : z.natAbs ≤ n) (F : Nat → LP) : sumN n (fun j => LP.dx ((j : Int) + 1) z * F j) = if 0 < z then F (z.natAbs - 1) else LP.term (-1) (-1) * F (z.natAbs - 1) := by
  rw [sumN_single (k := z.natAbs - 1) (by omega) (fun k hk hne => by rw [dx_other (by omega) (by omega), CR.zero_mul])]
  by_cases h : 0 < z
  · rw [if_pos h, show ((z.natAbs - 1 : Nat) : Int) + 1 = z by omega, dx_self, CR.one_mul]
  · rw [if_neg h]
    have e : z = -(((z.natAbs - 1 : Nat) : Int) + 1) := by omega
    conv => lhs; rw [e]
    rw [show (-(((z.natAbs - 1 : Nat) : Int) + 1)).natAbs - 1 = z.natAbs - 1 by omega, dx_neg (by omega)]
/-- The chain rule. -/
theorem chain {n : Nat} {w : List Int} (hw : nz w) {i : Int} (hi : 0 < i) : ∀ {u : List Int}, (∀ z ∈ u, z ≠ 0 ∧ z.natAbs ≤ n) → LP.foxT i (artC w u) = sumN n fun j => LP.foxT ((j : Int) + 1) u * LP.foxT i (artC w [(j : Int) + 1])
  | [], _ => by
    rw [artC_nil]
    show (0 : LP) = sumN n fun j => 0 * _
    rw [CR.sumN_mul, CR.zero_mul]
  | z :: u, hu => by
    obtain ⟨hz0, hzn⟩ := hu z (by simp)
    have hnu : nz u := fun x hx => (hu x (by simp [hx])).1
    have hz1 : nz [z] := fun x hx => by simp at hx; omega
    have e : artC w (z :: u) = artC w [z] ++ artC w u := artC_append w [z] u
    rw [e, LP.foxT_append, expo_artC hw hz1, chain hw hi (u := u) (fun x hx => hu x (by simp [hx]))]
    have e3 : LP.expo [z] = Int.sign z := by rw [LP.expo_cons, LP.expo_nil, Int.add_zero]
    rw [e3]
    have h1 : LP.foxT i (artC w [z]) = sumN n fun j => LP.dx ((j : Int) + 1) z * LP.foxT i (artC w [(j : Int) + 1]) := by
      rw [sumN_dx hz0 hzn (fun j => LP.foxT i (artC w [(j : Int) + 1]))]
      by_cases h : 0 < z
      · rw [if_pos h, show ((z.natAbs - 1 : Nat) : Int) + 1 = z by omega]
      · rw [if_neg h, show ((z.natAbs - 1 : Nat) : Int) + 1 = -z by omega]
        have hnz : nz [-z] := fun x hx => by simp at hx; omega
        have h2 := artC_invw hw hnz
        rw [show invw [-z] = [z] by simp [invw]] at h2
        rw [h2, foxT_invw hi (artC_nz hw hnz), expo_artC hw hnz, show LP.expo [-z] = 1 by rw [LP.expo_cons, LP.expo_nil, Int.sign_neg, Int.sign_eq_neg_one_of_neg (by omega)]; rfl]
        rw [show LP.term (-1) (-1) = -LP.term (-1) 1 from rfl, CR.neg_mul]
    rw [h1, ← sumN_mul, ← sumN_add]
    exact sumN_congr fun j _ => by
      show _ = (LP.dx ((j : Int) + 1) z + LP.term (Int.sign z) 1 * LP.foxT ((j : Int) + 1) u) * _
      rw [CR.add_mul, CR.mul_assoc]
theorem foxT_two (i x y : Int) : LP.foxT i [x, y] = LP.dx i x + LP.term (Int.sign x) 1 * LP.dx i y := by
  show LP.dx i x + LP.term (Int.sign x) 1 * LP.foxT i [y] = _
  rw [LP.foxT_one]
theorem foxT_three (i x y z : Int) : LP.foxT i [x, y, z] = LP.dx i x + LP.term (Int.sign x) 1 * (LP.dx i y + LP.term (Int.sign y) 1 * LP.dx i z) := by
  show LP.dx i x + LP.term (Int.sign x) 1 * LP.foxT i [y, z] = _
  rw [foxT_two]
theorem one_t : (1 : LP) + LP.term 2 1 * LP.term (-1) (-1) = 1 + -tT := by
  rw [LP.term_mul]
  rfl
/-- The derivatives of the images under a letter. -/
theorem fox_letter {x : Int} (hx : x ≠ 0) (r c : Nat) : LP.foxT ((c : Int) + 1) (artL x ((r : Int) + 1)) = bl x r c := by
  obtain ⟨a, ha⟩ : ∃ a, x.natAbs = a := ⟨_, rfl⟩
  have ha1 : 0 < a := by omega
  have hs1 : Int.sign (a : Int) = 1 := Int.sign_eq_one_of_pos (by omega)
  have hs2 : Int.sign ((a : Int) + 1) = 1 := Int.sign_eq_one_of_pos (by omega)
  have hr : (r : Int) + 1 = ((r + 1 : Nat) : Int) := by omega
  unfold bl
  rw [ha]
  by_cases h0 : 0 < x
  · have e : x = (a : Int) := by omega
    subst e
    rw [hr, artL_q ha1]
    by_cases h1 : r + 1 = a
    · rw [if_pos h1, if_pos h1, if_pos h0, foxT_three, hs1, hs2]
      by_cases c1 : c = r
      · subst c1
        rw [if_pos rfl, show (c : Int) + 1 = (a : Int) by omega, dx_self, dx_other (i := (a : Int)) (x := (a : Int) + 1) (by omega) (by omega), dx_neg (by omega), CR.zero_add, ← CR.mul_assoc, LP.term_mul]
        exact one_t
      · rw [if_neg c1]
        by_cases c2 : c = r + 1
        · rw [if_pos c2, show (c : Int) + 1 = (a : Int) + 1 by omega, dx_self, dx_other (by omega) (by omega), dx_other (x := -(a : Int)) (by omega) (by omega), CR.mul_zero, CR.add_zero, CR.zero_add, CR.mul_one]
          rfl
        · rw [if_neg c2, dx_other (by omega) (by omega), dx_other (x := (a : Int) + 1) (by omega) (by omega), dx_other (x := -(a : Int)) (by omega) (by omega), CR.mul_zero, CR.zero_add, CR.zero_add, CR.mul_zero]
    · rw [if_neg h1, if_neg h1]
      by_cases h2 : r = a
      · rw [if_pos (by omega), if_pos h2, if_pos h0, LP.foxT_one]
        by_cases c1 : c + 1 = r
        · rw [if_pos c1, show (c : Int) + 1 = (a : Int) by omega, dx_self]
        · rw [if_neg c1, dx_other (by omega) (by omega)]
      · rw [if_neg (by omega), if_neg h2, LP.foxT_one]
        by_cases c1 : r = c
        · subst c1
          rw [if_pos rfl, ← hr, dx_self]
        · rw [if_neg c1, dx_other (by omega) (by omega)]
  · have e : x = -(a : Int) := by omega
    subst e
    rw [hr, artL_r ha1]
    by_cases h1 : r + 1 = a
    · rw [if_pos h1, if_pos h1, if_neg h0, LP.foxT_one]
      by_cases c1 : c = r + 1
      · rw [if_pos c1, show (c : Int) + 1 = (a : Int) + 1 by omega, dx_self]
      · rw [if_neg c1, dx_other (by omega) (by omega)]
    · rw [if_neg h1, if_neg h1]
      by_cases h2 : r = a
      · have hs3 : Int.sign (-(a : Int) - 1) = -1 := Int.sign_eq_neg_one_of_neg (by omega)
        rw [if_pos (by omega), if_pos h2, if_neg h0, foxT_three, hs1, hs3]
        by_cases c1 : c + 1 = r
        · rw [if_pos c1, show (c : Int) + 1 = (a : Int) by omega, dx_self, dx_other (by omega) (by omega), dx_other (x := (a : Int) + 1) (by omega) (by omega), CR.mul_zero, CR.add_zero, CR.zero_add, CR.mul_one]
          rfl
        · rw [if_neg c1]
          by_cases c2 : c = r
          · rw [if_pos c2, show (c : Int) + 1 = (a : Int) + 1 by omega, show -(a : Int) - 1 = -((a : Int) + 1) by omega, dx_neg (by omega), dx_other (x := (a : Int)) (by omega) (by omega), dx_self, CR.zero_add, CR.mul_one, LP.term_mul, CR.add_comm]
            rfl
          · rw [if_neg c2, dx_other (by omega) (by omega), dx_other (x := (a : Int)) (by omega) (by omega), dx_other (x := (a : Int) + 1) (by omega) (by omega), CR.mul_zero, CR.zero_add, CR.zero_add, CR.mul_zero]
      · rw [if_neg (by omega), if_neg h2, LP.foxT_one]
        by_cases c1 : r = c
        · subst c1
          rw [if_pos rfl, ← hr, dx_self]
        · rw [if_neg c1, dx_other (by omega) (by omega)]
theorem artL_range {n : Nat} {x : Int} (hx : x ≠ 0) (hxn : x.natAbs < n) {r : Nat} (hr : r < n) : ∀ z ∈ artL x ((r : Int) + 1), z ≠ 0 ∧ z.natAbs ≤ n := fun z hz => by
  obtain ⟨a, ha⟩ : ∃ a, x.natAbs = a := ⟨_, rfl⟩
  rw [show (r : Int) + 1 = ((r + 1 : Nat) : Int) by omega] at hz
  by_cases h0 : 0 < x
  · rw [show x = (a : Int) by omega, artL_q (by omega)] at hz
    split at hz
    · simp at hz; omega
    · split at hz <;> (simp at hz; omega)
  · rw [show x = -(a : Int) by omega, artL_r (by omega)] at hz
    split at hz
    · simp at hz; omega
    · split at hz <;> (simp at hz; omega)
/-- FOX, BURAU: the derivatives of the images are the elements of the Burau matrix. -/
theorem fox_burau {n : Nat} : ∀ {w : List Int}, okB n w → ∀ r, r < n → ∀ c, c < n → LP.foxT ((c : Int) + 1) (artC w [(r : Int) + 1]) = bu n w r c
  | [], _, r, hr, c, hc => by
    show LP.foxT ((c : Int) + 1) [(r : Int) + 1] = (oneM : Mtx LP) r c
    rw [LP.foxT_one]
    by_cases h : r = c
    · subst h
      rw [dx_self]
      exact (if_pos rfl).symm
    · rw [dx_other (by omega) (by omega)]
      exact (if_neg h).symm
  | x :: w, h, r, hr, c, hc => by
    obtain ⟨hx0, hxn⟩ := h x (by simp)
    have hw : okB n w := fun y hy => h y (by simp [hy])
    have hnz : nz w := fun y hy => (hw y hy).1
    rw [artC_cons, artW_one, chain hnz (by omega) (artL_range hx0 hxn hr)]
    show _ = sumN n fun k => bl x r k * bu n w k c
    exact sumN_congr fun k hk => by rw [fox_letter hx0, fox_burau hw k hk c hc]
end Go.Proofs.Ytoaiblhlpdaeoaa
/- timbmake.Strands for any greatest number; slices.Concat of two slices. -/
namespace Go.Proofs.Ytoaiblhlpdaeoaa
set_option linter.unusedVariables false
set_option linter.unusedSimpArgs false
open Go.RowKit

set_option maxRecDepth 100000 in
theorem strands_gen (n : Int) (K : Nat) (kz : Int) (hkz : kz = (K : Int) + 1) (h1 : 1 ≤ K) (hK : K ≤ 10) (w : World) : Calls Try.prog 23 #[.int .i64 n, .int .i64 kz] w fun e w' => ∃ T : Nat, 1 ≤ T ∧ T ≤ K ∧ e = .returned (.int .i64 ((T : Int) + 1)) ∧ w = w' := by
  subst hkz
  obtain ⟨p, hp⟩ : ∃ p : Nat, n % (K : Int) = (p : Int) := ⟨(n % (K : Int)).toNat, by have := Int.emod_nonneg n (show (K : Int) ≠ 0 by omega); omega⟩
  have hp5 : p < K := by have := Int.emod_lt_of_pos n (show (0 : Int) < (K : Int) by omega); omega
  have HP := hide hp
  have hadd : IntKind.i64.wrap (2 + (p : Int)) = ((p + 1 : Nat) : Int) + 1 := by rw [IntKind.wrap_i64]; omega
  have HA := hide hadd
  have hs1 : (K : Int) + 1 - 1 = (K : Int) := by omega
  have hs2 : IntKind.i64.wrap (K : Int) = (K : Int) := by rw [IntKind.wrap_i64]; omega
  clear hp hadd
  go_enter Try.func23, Try.ntmps23
  go_wp2_with fail
  refine (mbelow_any n K _ h1 (by omega)).mono ?_
  rintro e w1 ⟨rfl, hww⟩
  subst hww
  rw [HP.out]
  go_wp2_with ((with_reducible show wpList _ _ _ (Oper.mk _ (.binOp .add _ _ _) _ _ _ _ :: _) _ _); refine wpList_gives rfl (gives_add rfl rfl rfl HA.out) ?_)
  go_ret
  exact ⟨p + 1, by omega, by omega, by
    have e : IntKind.i64.wrap (2 + (p : Int)) = ((p + 1 : Nat) : Int) + 1 := HA.out
    first | rfl | (simp; omega) | (simp [e]; omega), rfl⟩
end Go.Proofs.Ytoaiblhlpdaeoaa
/- timbkeep1.BraidRelations, for a package braid that answers as it should. (Written by tools/gen_brrel.py.) -/
namespace Go.Proofs.Ytoaiblhlpdaeoaa
set_option linter.unusedVariables false
set_option linter.unusedSimpArgs false
open Go.RowKit

theorem buL_congr {n : Nat} {a b : List Int} (h : EqM n (bu n a) (bu n b)) : buL n a = buL n b := by
  unfold buL
  exact List.map_congr_left fun i hi => List.map_congr_left fun j hj => by rw [h i (List.mem_range.1 hi) j (List.mem_range.1 hj)]
theorem okB_append {n : Nat} {a b : List Int} (ha : okB n a) (hb : okB n b) : okB n (a ++ b) := fun x hx => (List.mem_append.1 hx).elim (ha x) (hb x)
theorem bfault_T {T : Nat} (h5 : T ≤ 5) {a : List Int} (ha : okB (T + 1) a) (hl : a.length ≤ 30) : bfault ((T : Int) + 1) a = 0 :=
  bfault_ok (by omega) (by omega) hl fun x hx => by have := ha x hx; omega
theorem burE_T {T : Nat} (h5 : T ≤ 5) {a : List Int} (ha : okB (T + 1) a) (hl : a.length ≤ 16) : burE ((T : Int) + 1) a = 0 := by
  unfold burE
  rw [bfault_T h5 ha (by omega), if_pos rfl, if_neg (by omega)]
theorem burL_T {T : Nat} (h5 : T ≤ 5) {a : List Int} (ha : okB (T + 1) a) (hl : a.length ≤ 16) : burL ((T : Int) + 1) a = buL (T + 1) a := by
  unfold burL
  rw [burE_T h5 ha hl, if_pos rfl]
  rfl
theorem permE_T {T : Nat} (h5 : T ≤ 5) {a : List Int} (ha : okB (T + 1) a) (hl : a.length ≤ 30) : permE ((T : Int) + 1) a = zs (endsL (T + 1) a) := by
  unfold permE
  rw [bfault_T h5 ha hl, if_pos rfl]
  rfl
theorem expoB_T {T : Nat} (h5 : T ≤ 5) {a : List Int} (ha : okB (T + 1) a) (hl : a.length ≤ 30) : expoB ((T : Int) + 1) a = LP.expo a := by
  unfold expoB
  rw [bfault_T h5 ha hl, if_pos rfl]
theorem expo_app (a b : List Int) : LP.expo (a ++ b) = LP.expo a + LP.expo b := wsum_append _ _ _
/-- What is alike in two words that are equal by a relation. -/
structure Alike (T : Nat) (a b : List Int) : Prop where
  fa : bfault ((T : Int) + 1) a = 0
  fb : bfault ((T : Int) + 1) b = 0
  ba : burE ((T : Int) + 1) a = 0
  bb : burE ((T : Int) + 1) b = 0
  perm : permE ((T : Int) + 1) a = permE ((T : Int) + 1) b
  expo : expoB ((T : Int) + 1) a = expoB ((T : Int) + 1) b
  bur : burL ((T : Int) + 1) a = burL ((T : Int) + 1) b
  len : (burL ((T : Int) + 1) a).length = T + 1
theorem alike {T : Nat} (h5 : T ≤ 5) {us vs xs ys : List Int} (h : Side (T + 1) xs ys) (hu : okB (T + 1) us) (hv : okB (T + 1) vs) (lu : us.length ≤ 6) (lv : vs.length ≤ 6) : Alike T (us ++ xs ++ vs) (us ++ ys ++ vs) := by
  have oa := okB_append (okB_append hu h.ok1) hv
  have ob := okB_append (okB_append hu h.ok2) hv
  have la : (us ++ xs ++ vs).length ≤ 16 := by simp only [List.length_append]; have := h.l1; omega
  have lb : (us ++ ys ++ vs).length ≤ 16 := by simp only [List.length_append]; have := h.l2; omega
  refine ⟨bfault_T h5 oa (by omega), bfault_T h5 ob (by omega), burE_T h5 oa la, burE_T h5 ob lb, ?_, ?_, ?_, ?_⟩
  · rw [permE_T h5 oa (by omega), permE_T h5 ob (by omega), h.e.ends]
  · rw [expoB_T h5 oa (by omega), expoB_T h5 ob (by omega), expo_app, expo_app, expo_app, expo_app, h.x]
  · rw [burL_T h5 oa la, burL_T h5 ob lb]
    exact buL_congr (h.b.bu h.ok1 h.ok2 us vs)
  · rw [burL_T h5 oa la]
    simp [buL]

end Go.Proofs.Ytoaiblhlpdaeoaa
/- TopFox. -/

namespace Go.Proofs.Ytoaiblhlpdaeoaa
set_option linter.unusedVariables false
set_option linter.unusedSimpArgs false
open Go.RowKit Gar

theorem eSameT : ∀ args w, (callFunc 37 args).run Try.prog w = .ok (.enter 37 args) w := enters (fn := Try.f37) (by kernel_rfl) (by kernel_rfl) (by kernel_rfl)
set_option maxRecDepth 100000 in
set_option maxHeartbeats 2000000 in
theorem same_t (la : Int) (A : Option Addr) (n c : Nat) (xs : List Int) (B : Option Addr) (m d : Nat) (w : World) (ha : SL w A n c xs) (hb : SL w B m d xs) :
    Calls Try.prog 37 #[PV la A n c, PV la B m d] w fun e w' => e = .returned (.bool true) ∧ Below w.heap.size w w' := by
  have h1 : Below w.heap.size w ((w.alloc (.cells #[.int .i64 la, .slice A n c] 54)).alloc (.cells #[.int .i64 la, .slice B m d] 54)) := ((Below.refl _ _).alloc (Nat.le_refl _) _).alloc (by simp) _
  have HB0 := hide h1
  have he := equal_any A B n m c d xs xs _ (ha.il.below h1) (hb.il.below h1)
  rw [eqB_true rfl] at he
  have HE := hide he
  clear ha hb h1 he
  go_enter Try.func37, Try.ntmps37
  go_wp2_with fail
  refine HE.out.mono ?_
  rintro e w1 ⟨rfl, hb⟩
  have HB1 := hide (HB0.out.trans (hb.mono HB0.out.size))
  clear hb
  go_wp2_with fail
  go_ret
  exact ⟨rfl, HB1.out⟩
theorem gives_loadPo {o : Oper} {a : Act} {w : World} {x : Operand} {ad : Addr} {lo : Int} {B : Option Addr} {m d : Nat} (ho : o.op = .load 54 x) (hx : a.eval x = .pointer (some ad)) (h0 : w.cell? ad = some (.int .i64 lo)) (h1 : w.cell? ⟨ad.block, ad.off + 1, none⟩ = some (.slice B m d)) :
    Gives Try.prog o a w (PV lo B m d) := by
  unfold Gives execOp
  rw [ho]
  generalize a.eval = f at *
  simp [hx, Instr.loadAt, Instr.sureAddr, go_sem, h0, h1, Result.andThen]
theorem gives_neqT {o : Oper} {a : Act} {w : World} {x y : Operand} {ty : TypeId} {m k : Int} {b : Bool} (ho : o.op = .binOp .neq 23 x y ty) (hx : a.eval x = .int .i64 m) (hy : a.eval y = .int .i64 k) (hz : (m != k) = b) : Gives Try.prog o a w (.bool b) := by
  subst hz
  unfold Gives execOp
  rw [ho]
  simp [hx, hy, eqGuard, binOp, Op.intCmp, Sem.run_bind, Result.andThen, bne]
theorem gives_notT {P : Program} {o : Oper} {a : Act} {w : World} {x : Operand} {t : TypeId} {b c : Bool} (ho : o.op = .unOp .not t x) (hx : a.eval x = .bool b) (hc : (!b) = c) : Gives P o a w (.bool c) := by
  subst hc
  unfold Gives execOp
  rw [ho]
  generalize a.eval = f at *
  simp [hx, Op.unary, Sem.run_bind, Result.andThen]
theorem artE_ok {N : Nat} (h1 : 1 ≤ N) (h6 : N ≤ 6) {xs : List Int} (hx : okB N xs) (hl : xs.length ≤ 10) : artE (N : Int) xs = 0 ∧ artI (N : Int) xs = imgs N xs := by
  have e : artE (N : Int) xs = 0 := by
    unfold artE
    rw [bf_ok h1 h6 hx (by omega), if_neg (by simp), Int.toNat_natCast, long_short h6 hx hl]
    rfl
  refine ⟨e, ?_⟩
  unfold artI
  rw [if_pos e, Int.toNat_natCast]
theorem bur_ok {N : Nat} (h1 : 1 ≤ N) (h6 : N ≤ 6) {xs : List Int} (hx : okB N xs) (hl : xs.length ≤ 16) : burE (N : Int) xs = 0 ∧ burL (N : Int) xs = buL N xs := by
  have e : burE (N : Int) xs = 0 := by
    unfold burE
    rw [bf_ok h1 h6 hx (by omega), if_pos rfl, if_neg (by omega)]
  refine ⟨e, ?_⟩
  unfold burL
  rw [if_pos e, Int.toNat_natCast]
theorem buL_at {N i k : Nat} (xs : List Int) (hi : i < N) (hk : k < N) : ((buL N xs).getD i []).length = N ∧ ((buL N xs).getD i []).getD k (0, []) = cP (bu N xs i k) := by
  simp [buL, List.getD, hi, hk]
theorem img_ok {N : Nat} (h6 : N ≤ 6) {xs : List Int} (hx : okB N xs) {i : Nat} (hi : i < N) : nz (artC xs [((i : Nat) : Int) + 1]) ∧ ∀ z ∈ nf (artC xs [((i : Nat) : Int) + 1]), okL z = true := by
  have h0 : nz [((i : Nat) : Int) + 1] := fun z hz => by simp at hz; omega
  have h1 : nz (artC xs [((i : Nat) : Int) + 1]) := artC_nz (okB_nz hx) h0
  have h2 := artC_le (n := N) hx (u := [((i : Nat) : Int) + 1]) (fun z hz => by simp at hz; omega)
  refine ⟨h1, fun z hz => ?_⟩
  have hm := nf_mem hz
  have := h1 z hm
  have := h2 z hm
  exact decide_eq_true (by omega)
theorem fox_img {N : Nat} (h6 : N ≤ 6) {xs : List Int} (hx : okB N xs) {i k : Nat} (hi : i < N) (hk : k < N) (hl : (nf (artC xs [((i : Nat) : Int) + 1])).length ≤ 60) :
    foxR (nf (artC xs [((i : Nat) : Int) + 1])) ((k : Int) + 1) = (0, (cP (bu N xs i k)).1, (cP (bu N xs i k)).2) := by
  obtain ⟨h1, h2⟩ := img_ok h6 hx hi
  have hf : ffault (nf (artC xs [((i : Nat) : Int) + 1])) = 0 := by
    unfold ffault
    rw [if_neg (by omega), if_pos (List.all_eq_true.2 h2)]
  unfold foxR
  rw [if_pos hf, if_pos (by omega), foxT_nf (by omega) h1, fox_burau hx i hi k hk]
  rfl
theorem fox_long {u : List Int} (h : 60 < u.length) (i : Int) : foxR u i = (2, 0, []) := by
  have hf : ffault u = 2 := if_pos h
  unfold foxR
  rw [hf, if_neg (by omega)]

set_option maxRecDepth 100000 in
set_option maxHeartbeats 16000000 in
theorem topFox_any (F : GarC) (G : ArtinC) (FB : BraidC) (FX : FoxC) (nn : Int) (A : Option Addr) (n c : Nat) (us : List Int) (w : World) (ha : SL w A n c us) :
    Calls Try.prog 9 #[.int .i64 nn, .slice A n c] w fun e w' => e = .returned (.bool true) ∧ Below w.heap.size w w' := by
  have HEQ := hide (equal_top F G)
  have HG := hide G
  have HFB := hide FB
  have HFX := hide FX
  have HA := hide ha
  clear F G FB FX ha
  have hnt := Bool.not_false
  have hnt2 := Bool.not_true
  go_enter Try.func9, Try.ntmps9
  go_wp2_with fail
  refine (strands_gen nn 5 6 rfl (by omega) (by omega) w).mono ?_
  rintro e w0 ⟨T, hT1, hT5, rfl, hww⟩
  subst hww
  have hw1 : IntKind.i64.wrap (T : Int) = (T : Int) := by rw [IntKind.wrap_i64]; omega
  have hs1 : (T : Int) + 1 - 1 = (T : Int) := by omega
  go_wp2_with fail
  refine (word_any A T n c 6 us w HA.out.il HA.out.cap (by omega) (by omega) (by omega)).mono ?_
  rintro e w1 ⟨xs, X, xn, xc, rfl, ho, hx, hxn, hb⟩
  have hxl := ho.len
  have SX := hide ho.sl
  have HW := hide hb
  have hokx := word_okB hx
  obtain ⟨N, hN⟩ : ∃ N, T + 1 = N := ⟨_, rfl⟩
  rw [hN] at hokx
  have hTi : (T : Int) + 1 = (N : Int) := by omega
  rw [hTi]
  have hN2 : 2 ≤ N := by omega
  have hN6 : N ≤ 6 := by omega
  have HOK := hide hokx
  have HWM := hide (wfI (x := (N : Int)) (by omega))
  have HAE := hide (artE_ok (by omega) hN6 hokx (by omega))
  have HBE := hide (bur_ok (by omega) hN6 hokx (by omega))
  clear ho hb hx HA hw1 hs1 hN hTi hT1 hT5 hokx hxl hxn
  go_upto_region 3 with fail
  go_wp2_with fail
  refine (HG.out.images (N : Int) X xn xc xs w1 SX.out HWM.out).mono ?_
  rintro e w2 ⟨L, ln, lc, rfl, hs, hb⟩
  rw [HAE.out.1]
  rw [HAE.out.2] at hs
  have hln : ln = N := by have := hs.len; rw [imgs_length] at this; exact this.symm
  subst hln
  have SLs := hide hs
  replace SX := hide (SX.out.below hb)
  replace HW := hide (HW.out.trans (hb.mono HW.out.size))
  clear hs hb HAE
  go_upto_region 4 with fail
  go_wp2_with fail
  refine (HFB.out.burau (ln : Int) X xn xc xs w2 SX.out HWM.out).mono ?_
  rintro e w3 ⟨M, mn, mc, rfl, hs, hb⟩
  rw [HBE.out.1]
  rw [HBE.out.2] at hs
  have hmn : mn = ln := by have := hs.len; simp [buL] at this; exact this.symm
  subst hmn
  have SM := hide hs
  replace SLs := hide (SLs.out.below hb)
  replace HW := hide (HW.out.trans (hb.mono HW.out.size))
  clear hs hb HBE SX
  go_upto_region 5 with fail
  go_wp2_with fail
  refine (HEQ.out w3).mono ?_
  rintro e w4 ⟨rfl, hb⟩
  replace SLs := hide (SLs.out.below hb)
  replace SM := hide (SM.out.below hb)
  replace HW := hide (HW.out.trans (hb.mono HW.out.size))
  clear hb HEQ
  have hxx : ((mn : Int) != (mn : Int)) = false := by simp
  go_wp2_with fail
  go_loopw [57] (fun iv wr => ∃ i : Nat, i ≤ mn ∧ iv = .int .i64 i ∧ Hid (Below w.heap.size w wr) ∧ Hid (SLL wr L mn lc (imgs mn xs)) ∧ Hid (SPP wr M mn mc (buL mn xs))) (fun iv _ => mn - (intOf iv).toNat)
  case atStart => exact ⟨0, Nat.zero_le _, rfl, HW, SLs, SM⟩
  case round =>
    clear HW SLs SM
    obtain ⟨i, hi, rfl, HW, SLs, SM⟩ := hrel
    by_cases hlt : i < mn
    · obtain ⟨ad, B, m, d, rfl, hcl, hsl⟩ := SLs.out.at_ hlt
      rw [imgs_getD xs hlt] at hsl
      have HIM := hide (fun (k : Nat) (hk : k < mn) h => fox_img hN6 HOK.out hlt hk h)
      have HLT := hide hlt
      obtain ⟨v, hv⟩ : ∃ v, nf (artC xs [((i : Nat) : Int) + 1]) = v := ⟨_, rfl⟩
      rw [hv] at hsl HIM
      have SV := hide hsl
      clear hsl hv
      rename World => wo
      go_wp2_with fail
      go_loopw [63] (fun kv wr => ∃ k : Nat, k ≤ mn ∧ kv = .int .i64 k ∧ Hid (Below w.heap.size w wr) ∧ Hid (SLL wr (some ad) mn lc (imgs mn xs)) ∧ Hid (SPP wr M mn mc (buL mn xs)) ∧ Hid (SL wr B m d v)) (fun kv _ => mn - (intOf kv).toNat)
      case atStart => exact ⟨0, Nat.zero_le _, rfl, HW, SLs, SM, SV⟩
      case round =>
        clear HW SLs SM SV
        obtain ⟨k, hk, rfl, HW, SLs, SM, SV⟩ := hrel
        have hlt := HLT.out
        by_cases hki : k < mn
        · have hk1 : IntKind.i64.wrap ((k : Int) + 1) = (k : Int) + 1 := by rw [IntKind.wrap_i64]; omega
          have HWK := hide (wfI (x := (k : Int) + 1) (by omega))
          obtain ⟨⟨er, lr, cr⟩, hr⟩ : ∃ q, foxR v ((k : Int) + 1) = q := ⟨_, rfl⟩
          have HR := hide hr
          have hvl : v.length = m := SV.out.il.len
          have HVL := hide hvl
          clear hr hvl
          go_wp2_with fail
          refine (HFX.out.derivative B m d v ((k : Int) + 1) wr SV.out HWK.out).mono ?_
          rintro e w5 ⟨Q, qn, qc, rfl, hs, hnw, hb⟩
          rw [HR.out] at hs ⊢
          dsimp only at hs ⊢
          replace HW := hide (HW.out.trans (hb.mono HW.out.size))
          replace SLs := hide (SLs.out.below hb)
          replace SM := hide (SM.out.below hb)
          replace SV := hide (SV.out.below hb)
          have SQ := hide hs
          clear hb hs hnw hk1 HWK
          go_upto_region 14 with fail
          have hb : Below w5.heap.size w5 (w5.alloc (.cells #[.int .i64 lr, .slice Q qn qc] 54)) := (Below.refl _ _).alloc (Nat.le_refl _) _
          have BP := hide (Blk.new w5 54 #[.int .i64 lr, .slice Q qn qc])
          replace HW := hide (HW.out.trans (hb.mono HW.out.size))
          replace SLs := hide (SLs.out.below hb)
          replace SM := hide (SM.out.below hb)
          replace SV := hide (SV.out.below hb)
          replace SQ := hide (SQ.out.below hb)
          obtain ⟨bp, hq⟩ : ∃ q, w5.heap.size = q := ⟨_, rfl⟩
          obtain ⟨w6, hw⟩ : ∃ x, w5.alloc (.cells #[.int .i64 lr, .slice Q qn qc] 54) = x := ⟨_, rfl⟩
          rw [hw] at BP HW SLs SM SV SQ ⊢
          rw [hq] at BP ⊢
          clear hb hq hw
          by_cases h60 : 60 < m
          · have hd : decide ((60 : Int) < (m : Int)) = true := decide_eq_true (by omega)
            have he : er = 2 := by
              have h := HR.out
              rw [fox_long (by rw [HVL.out]; exact h60)] at h
              exact (congrArg (fun q : LP.PR => q.1) h).symm
            subst he
            go_wp2_with fail
            go_roundw
            case rel => exact ⟨k + 1, by omega, by go_num, HW, SLs, SM, SV⟩
            case measure => simp [intOf]; omega
          have hd : decide ((60 : Int) < (m : Int)) = false := decide_eq_false (by omega)
          have hfx := HIM.out k hki (by rw [HVL.out]; omega)
          rw [HR.out] at hfx
          injection hfx with he hfx
          injection hfx with h1 h2
          subst he h1 h2
          obtain ⟨⟨lo, cs⟩, hP⟩ : ∃ q, cP (bu mn xs i k) = q := ⟨_, rfl⟩
          rw [hP] at BP SQ HR ⊢
          dsimp only at BP SQ HR ⊢
          obtain ⟨am, rfl, hml, hmc⟩ := SM.out.mem (by omega)
          obtain ⟨B2, m2, d2, hc2, hsp⟩ := hmc i hlt
          obtain ⟨hbl, hbg⟩ := buL_at xs hlt hki
          have hm2 : m2 = mn := by have := hsp.len; rw [hbl] at this; exact this.symm
          subst hm2
          obtain ⟨ae, rfl, hel, hec⟩ := hsp.mem (by omega)
          obtain ⟨B3, m3, d3, hc3, hc4, hs3, _⟩ := hec k hki
          rw [hbg, hP] at hc3 hs3
          dsimp only at hc3 hs3
          have S3 := hide hs3
          have H2 := hide hc2
          have H3 := hide hc3
          have H4 := hide hc4
          have HML := hide hml
          have HEL := hide hel
          clear hml hmc hc2 hsp hbl hbg hP hec hc3 hc4 hs3 hel
          go_upto_region 15 with fail
          refine wp_region_noPanic ?_
          refine wp_region_held_drew (S := fun z => Below w6.heap.size w6 z) (by kernel_rfl) (Below.refl _ _).drew (fun hS0 => ?_)
          refine wpAnyH_tk 0 (v := .int .i64 0) rfl (by kernel_rfl) (by kernel_rfl) (by kernel_rfl) (yi rfl fun w' hw' => gives_move (.inl rfl) rfl) hS0 ?_
          go_frame
          refine wpAnyH_tk 1 (v := .bool false) rfl (by kernel_rfl) (by kernel_rfl) (by kernel_rfl) (yi rfl fun w' hw' => gives_neqT rfl rfl rfl (by simp)) hS0 ?_
          go_frame
          refine wpAnyH_tk 2 (v := .bool false) rfl (by kernel_rfl) (by kernel_rfl) (by kernel_rfl) (yi rfl fun w' hw' => gives_move (.inl rfl) rfl) hS0 ?_
          go_frame
          refine wpAnyH_tk 3 (v := PV lo Q qn qc) rfl (by kernel_rfl) (by kernel_rfl) (by kernel_rfl) (yi rfl fun w' hw' => gives_loadRow rfl rfl (BP.out.below hw' BP.out.lt) Try.underlying54 (by kernel_rfl) (by kernel_rfl)) hS0 ?_
          go_frame
          refine wpAnyH_tk 4 (v := .slice (some am) m2 mc) rfl (by kernel_rfl) (by kernel_rfl) (by kernel_rfl) (yi rfl fun w' hw' => gives_move (.inl rfl) rfl) hS0 ?_
          go_frame
          refine wpAnyH_tk 5 (v := .int .i64 i) rfl (by kernel_rfl) (by kernel_rfl) (by kernel_rfl) (yi rfl fun w' hw' => gives_move (.inl rfl) rfl) hS0 ?_
          go_frame
          refine wpAnyH_tk 6 (v := .pointer (some (am.add i))) rfl (by kernel_rfl) (by kernel_rfl) (by kernel_rfl) (yi rfl fun w' hw' => gives_indexA rfl Try.underlying50 (fun w => by kernel_rfl) rfl rfl hlt) hS0 ?_
          go_frame
          refine wpAnyH_tk 7 (v := .slice (some ae) m2 d2) rfl (by kernel_rfl) (by kernel_rfl) (by kernel_rfl) (yi rfl fun w' hw' => gives_load1 rfl (by kernel_rfl) rfl ((hw'.cell (p := am.add i) (by rw [block_of_add]; exact HML.out)).trans H2.out)) hS0 ?_
          go_frame
          refine wpAnyH_tk 8 (v := .int .i64 k) rfl (by kernel_rfl) (by kernel_rfl) (by kernel_rfl) (yi rfl fun w' hw' => gives_move (.inl rfl) rfl) hS0 ?_
          go_frame
          refine wpAnyH_tk 9 (v := .pointer (some (ae.add (k * 2)))) rfl (by kernel_rfl) (by kernel_rfl) (by kernel_rfl) (yi rfl fun w' hw' => gives_indexSlice rfl Try.underlying58 (fun w => by kernel_rfl) rfl rfl hki) hS0 ?_
          go_frame
          refine wpAnyH_tk 10 (v := PV lo B3 m3 d3) rfl (by kernel_rfl) (by kernel_rfl) (by kernel_rfl) (yi rfl fun w' hw' => gives_loadPo rfl rfl ((hw'.cell (p := ae.add (k * 2)) (by rw [block_of_add]; exact HEL.out)).trans H3.out) ((hw'.cell (p := ⟨(ae.add (k * 2)).block, (ae.add (k * 2)).off + 1, none⟩) (by show (ae.add (k * 2)).block < _; rw [block_of_add]; exact HEL.out)).trans H4.out)) hS0 ?_
          go_frame
          refine wpAnyH_1g 11 rfl (by kernel_rfl) (by kernel_rfl) ?_
          refine wp_call [PV lo Q qn qc, PV lo B3 m3 d3] rfl rfl eSameT rfl ((same_t lo Q qn qc cs B3 m3 d3 _ (SQ.out.below hS0) (S3.out.below hS0)).mono ?_)
          rintro e v1 ⟨rfl, hb⟩
          have hS1 : Below w6.heap.size w6 v1 := hS0.trans (hb.mono hS0.size)
          refine ⟨_, rfl, hS1, ?_⟩
          clear hb
          go_frame
          refine wpAnyH_tk 12 (v := .bool false) rfl (by kernel_rfl) (by kernel_rfl) (by kernel_rfl) (yi rfl fun w' hw' => gives_notT rfl rfl rfl) hS1 ?_
          go_frame
          refine wpAnyH_tk 13 (v := .bool false) rfl (by kernel_rfl) (by kernel_rfl) (by kernel_rfl) (yi rfl fun w' hw' => gives_pick rfl rfl rfl) hS1 ?_
          go_frame
          refine wpAnyH_done (by kernel_rfl) (noPanic_mk ?_) _
          replace HW := hide (HW.out.trans (hS1.mono HW.out.size))
          replace SLs := hide (SLs.out.below hS1)
          replace SM := hide (SM.out.below hS1)
          replace SV := hide (SV.out.below hS1)
          clear hS0 hS1 S3 H2 H3 H4 BP SQ
          go_wp2_with fail
          go_roundw
          case rel => exact ⟨k + 1, by omega, by go_num, HW, SLs, SM, SV⟩
          case measure => simp [intOf]; omega
        · have hkn : k = mn := by omega
          clear hki
          go_wp2_with fail
          go_roundw
          case rel => exact ⟨i + 1, by omega, by go_num, HW, SLs, SM⟩
          case measure => simp [intOf]; omega
    · go_wp2_with fail
      go_ret
      exact ⟨rfl, HW.out⟩
end Go.Proofs.Ytoaiblhlpdaeoaa
