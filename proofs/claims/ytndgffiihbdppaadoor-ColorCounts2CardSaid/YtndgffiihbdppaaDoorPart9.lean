/- Several texts in one. -/
import Derived.Test.YtndgffiihbdppaaDoorPart8
import Derived.Test.YtndgffiihbdppaaDoorPart1
import Derived.Test.YtndgffiihbdppaaDoorPart3
import Derived.Test.YtndgffiihbdppaaDoorBase1
/- Sets of rows and columns as numbers; the minors of a matrix by sets, and their expansion along the first row. -/
namespace Go.Proofs.YtndgffiihbdppaaDoor
set_option linter.unusedVariables false
set_option linter.unusedSimpArgs false
open Go.RowKit

def bitsL (S : Nat) : List Nat := (List.range 6).filter fun i => S.testBit i
theorem bitsL_length (S : Nat) : (bitsL S).length = sizeN S := rfl
/-- The elements below c. -/
def cntB (S c : Nat) : Nat := ((List.range c).filter fun i => S.testBit i).length
theorem low_facts : ∀ R : Nat, R < 64 → R ≠ 0 → bitsL R = lowN R :: bitsL (R - 2 ^ lowN R) ∧ R.testBit (lowN R) = true ∧ R - 2 ^ lowN R < R ∧ sizeN (R - 2 ^ lowN R) + 1 = sizeN R := by decide +kernel
theorem bit_facts : ∀ C : Nat, C < 64 → ∀ c : Nat, c < 6 → C.testBit c = true → bitsL (C - 2 ^ c) = (bitsL C).eraseIdx (cntB C c) ∧ (bitsL C).getD (cntB C c) 0 = c ∧ cntB C (c + 1) = cntB C c + 1 ∧ sizeN (C - 2 ^ c) + 1 = sizeN C ∧ cntB C c < 6 := by decide +kernel
theorem nobit_facts : ∀ C : Nat, C < 64 → ∀ c : Nat, c < 6 → C.testBit c = false → cntB C (c + 1) = cntB C c := by decide +kernel
theorem cnt_end : ∀ m : Nat, m < 7 → ∀ C : Nat, C < 2 ^ m → cntB C m = sizeN C := by decide +kernel
theorem cnt_le : ∀ m : Nat, m < 7 → ∀ C : Nat, C < 64 → cntB C m ≤ 6 := by decide +kernel
theorem low_below : ∀ n : Nat, n < 7 → ∀ R : Nat, R < 2 ^ n → R ≠ 0 → lowN R < n := by decide +kernel
theorem set_and : ∀ C : Nat, C < 64 → ∀ c : Nat, c < 6 → (bits BinOp.and IntKind.i64 (C : Int) ((2 ^ c : Nat) : Int) != 0) = C.testBit c := by decide +kernel
theorem set_andNot : ∀ C : Nat, C < 64 → ∀ c : Nat, c < 6 → C.testBit c = true → bits BinOp.andNot IntKind.i64 (C : Int) ((2 ^ c : Nat) : Int) = ((C - 2 ^ c : Nat) : Int) := by decide +kernel
theorem size_le : ∀ C : Nat, C < 64 → sizeN C ≤ 6 := by decide +kernel
theorem bits_below : ∀ n : Nat, n < 7 → ∀ S : Nat, S < 2 ^ n → (∀ x ∈ bitsL S, x < n) ∧ sizeN S ≤ n := by decide +kernel
theorem bits_sorted (S : Nat) : Sorted (bitsL S) := by
  unfold bitsL Sorted
  exact List.Pairwise.filter _ List.pairwise_lt_range
theorem inc_bits {n S : Nat} (hn : n ≤ 6) (hS : S < 2 ^ n) : Inc n (sizeN S) (bitsL S) := ⟨bits_sorted S, rfl, (bits_below n (by omega) S hS).1⟩
theorem sets_all : ∀ n : Nat, n < 7 → ∀ K : Nat, K < 7 → ∀ p ∈ chs n K [] 0, (List.range (2 ^ n)).any (fun S => decide (bitsL S = p)) = true := by decide +kernel
theorem inc_set {n K : Nat} {p : List Nat} (hn : n ≤ 6) (hK : K ≤ 6) (h : Inc n K p) : ∃ S, S < 2 ^ n ∧ bitsL S = p ∧ sizeN S = K := by
  have h1 := sets_all n (by omega) K (by omega) p (mem_chs0.2 h)
  obtain ⟨S, hS, h2⟩ := List.any_eq_true.1 h1
  have h3 : bitsL S = p := of_decide_eq_true h2
  exact ⟨S, List.mem_range.1 hS, h3, by rw [← bitsL_length, h3]; exact h.2.1⟩

/-- The determinant of a square submatrix, by sets; 0 at other pairs. -/
def mnr (M : Mtx Int) (R C : Nat) : Int := if sizeN R = sizeN C then detR (sizeN R) (subM M (bitsL R) (bitsL C)) else 0
theorem mnr_zero (M : Mtx Int) {C : Nat} (h : sizeN 0 = sizeN C) : mnr M 0 C = 1 := by
  unfold mnr
  rw [if_pos h]
  rfl
theorem mnr_ne (M : Mtx Int) {R C : Nat} (h : sizeN R ≠ sizeN C) : mnr M R C = 0 := by unfold mnr; rw [if_neg h]
theorem mnr_le {M : Mtx Int} {R C : Nat} (hR : R < 64) (h : ∀ i j, (M i j).natAbs ≤ 100) : (mnr M R C).natAbs ≤ fct (sizeN R) * 100 ^ sizeN R := by
  unfold mnr
  split
  · exact detR_le _ _ fun i _ j _ => h _ _
  · simp
/-- Term j of the expansion. -/
def expF (M : Mtx Int) (R C j : Nat) : Int := CR.sgR Int j * (subM M (bitsL R) (bitsL C) 0 j * detR (sizeN R - 1) fun a b => subM M (bitsL R) (bitsL C) (a + 1) (CR.skip j b))
def expP (M : Mtx Int) (R C c : Nat) : Int := CR.sumN (cntB C c) (expF M R C)
theorem getD_eraseIdx (l : List Nat) (j b : Nat) : (l.eraseIdx j).getD b 0 = l.getD (CR.skip j b) 0 := by
  unfold CR.skip
  simp only [List.getD_eq_getElem?_getD, List.getElem?_eraseIdx]
  split <;> rfl
theorem expF_set {M : Mtx Int} {R C c : Nat} (hR : R < 64) (h0 : R ≠ 0) (hC : C < 64) (hc : c < 6) (hb : C.testBit c = true) (hs : sizeN R = sizeN C) :
    expF M R C (cntB C c) = CR.sgR Int (cntB C c) * (M (lowN R) c * mnr M (R - 2 ^ lowN R) (C - 2 ^ c)) := by
  obtain ⟨l1, l2, l3, l4⟩ := low_facts R hR h0
  obtain ⟨b1, b2, b3, b4, b5⟩ := bit_facts C hC c hc hb
  unfold expF mnr
  rw [if_pos (by omega), show sizeN R - 1 = sizeN (R - 2 ^ lowN R) by omega]
  have e1 : subM M (bitsL R) (bitsL C) 0 (cntB C c) = M (lowN R) c := by unfold subM; rw [l1, b2]; rfl
  rw [e1]
  have e2 : (fun a b => subM M (bitsL R) (bitsL C) (a + 1) (CR.skip (cntB C c) b)) = subM M (bitsL (R - 2 ^ lowN R)) (bitsL (C - 2 ^ c)) := by
    funext a b
    unfold subM
    rw [b1, getD_eraseIdx]
    conv => lhs; rw [l1]
    rfl
  rw [e2]
theorem expP_set {M : Mtx Int} {R C c : Nat} (hR : R < 64) (h0 : R ≠ 0) (hC : C < 64) (hc : c < 6) (hb : C.testBit c = true) (hs : sizeN R = sizeN C) :
    expP M R C (c + 1) = expP M R C c + CR.sgR Int (cntB C c) * M (lowN R) c * mnr M (R - 2 ^ lowN R) (C - 2 ^ c) := by
  unfold expP
  rw [(bit_facts C hC c hc hb).2.2.1, CR.sumN_succ, expF_set hR h0 hC hc hb hs, Int.mul_assoc]
theorem expP_not {M : Mtx Int} {R C c : Nat} (hC : C < 64) (hc : c < 6) (hb : C.testBit c = false) : expP M R C (c + 1) = expP M R C c := by
  unfold expP
  rw [nobit_facts C hC c hc hb]
theorem expP_end {M : Mtx Int} {R C m : Nat} (hR : R < 64) (h0 : R ≠ 0) (hm : m ≤ 6) (hC : C < 2 ^ m) (hs : sizeN R = sizeN C) : expP M R C m = mnr M R C := by
  unfold expP mnr
  rw [cnt_end m (by omega) C hC, if_pos hs, ← hs]
  have := (low_facts R hR h0).2.2.2
  obtain ⟨k, hk⟩ : ∃ k, sizeN R = k + 1 := ⟨sizeN R - 1, by omega⟩
  unfold expF
  rw [hk]
  rfl
theorem fct5 : ∀ k : Nat, k < 6 → fct k * 100 ^ k ≤ 1200000000000 := by decide
theorem expF_le {M : Mtx Int} {R C j : Nat} (hR : R < 64) (h0 : R ≠ 0) (h : ∀ i j, (M i j).natAbs ≤ 100) : (expF M R C j).natAbs ≤ 120000000000000 := by
  have h1 : (CR.sgR Int j).natAbs ≤ 1 := by unfold CR.sgR; split <;> decide
  have h2 := detR_le (B := 100) (sizeN R - 1) (fun a b => subM M (bitsL R) (bitsL C) (a + 1) (CR.skip j b)) fun a _ b _ => h _ _
  have h3 := fct5 (sizeN R - 1) (by have := size_le R hR; omega)
  have h4 := abs_mul_le (h ((bitsL R).getD 0 0) ((bitsL C).getD j 0)) (Nat.le_trans h2 h3)
  have h5 := abs_mul_le h1 h4
  exact Nat.le_trans h5 (by omega)
theorem expP_le {M : Mtx Int} {R C m : Nat} (hR : R < 64) (h0 : R ≠ 0) (hC : C < 64) (hm : m ≤ 6) (h : ∀ i j, (M i j).natAbs ≤ 100) : (expP M R C m).natAbs ≤ 720000000000000 := by
  unfold expP
  have h1 := natAbs_sum_le (B := 120000000000000) (n := cntB C m) (f := expF M R C) fun j _ => expF_le hR h0 h
  have h2 := cnt_le m (by omega) C hC
  exact Nat.le_trans h1 (by omega)
theorem fct6 : ∀ k : Nat, k < 7 → fct k * 100 ^ k ≤ 720000000000000 := by decide
theorem mnr_small {M : Mtx Int} {R C : Nat} (hR : R < 64) (h : ∀ i j, (M i j).natAbs ≤ 100) : (mnr M R C).natAbs ≤ 720000000000000 := Nat.le_trans (mnr_le hR h) (fct6 _ (by have := size_le R hR; omega))
theorem mnr_small5 {M : Mtx Int} {R C : Nat} (hR : R < 64) (h6 : sizeN R < 6) (h : ∀ i j, (M i j).natAbs ≤ 100) : (mnr M R C).natAbs ≤ 1200000000000 := Nat.le_trans (mnr_le hR h) (fct5 _ h6)
theorem sgR_cases (j : Nat) : CR.sgR Int j = 1 ∨ CR.sgR Int j = -1 := by unfold CR.sgR; split <;> simp
theorem sgR_next (j : Nat) : CR.sgR Int (j + 1) = -CR.sgR Int j := by
  unfold CR.sgR
  rcases Nat.mod_two_eq_zero_or_one j with h | h
  · rw [if_neg (by omega), if_pos h]
  · rw [if_pos (by omega), if_neg (by omega)]; rfl
/-- The row of minors of a set of rows. -/
def mnrL (M : Mtx Int) (m R : Nat) : List Int := (List.range (2 ^ m)).map fun C => mnr M R C
theorem mnrL_length (M : Mtx Int) (m R : Nat) : (mnrL M m R).length = 2 ^ m := by simp [mnrL]
theorem mnrL_getD (M : Mtx Int) {m R C : Nat} (h : C < 2 ^ m) : (mnrL M m R).getD C 0 = mnr M R C := by simp [mnrL, List.getD, h]
end Go.Proofs.YtndgffiihbdppaaDoor
/- Package intmatrix: Check, columns, gcd, expand. -/
namespace Go.Proofs.YtndgffiihbdppaaDoor
set_option linter.unusedVariables false
set_option linter.unusedSimpArgs false
open Go.RowKit

set_option maxRecDepth 100000 in
theorem columns_any (A : Option Addr) (n c : Nat) (xss : List (List Int)) (w : World) (ha : SLL w A n c xss) :
    Calls Tryd.prog 32 #[.slice A n c] w fun e w' => e = .returned (.int .i64 (colsM xss : Nat)) ∧ w = w' := by
  have hl := ha.len
  have hs := ha.small
  by_cases hn : n = 0
  · have hx : xss = [] := List.eq_nil_of_length_eq_zero (by omega)
    subst hx
    have hz : Hid (((colsM [] : Nat) : Int) = 0) := rfl
    rw [hz.out]
    clear ha hl
    subst hn
    go_enter Tryd.func32, Tryd.ntmps32
    go_wp2
    go_ret
    exact ⟨rfl, rfl⟩
  · obtain ⟨ad, B, m, d, rfl, hc, hsl⟩ := ha.at_ (k := 0) (by omega)
    rw [show ad.add 0 = ad by unfold Addr.add; simp] at hc
    have hm : Hid (((colsM xss : Nat) : Int) = m) := hide (by unfold colsM; rw [hsl.il.len])
    rw [hm.out]
    have hms := hsl.il.small
    have hb : ((n : Int) == 0) = false := by simp; omega
    clear ha hl hsl
    go_enter Tryd.func32, Tryd.ntmps32
    go_wp2
    go_ret
    exact ⟨rfl, rfl⟩

set_option maxRecDepth 100000 in
set_option maxHeartbeats 2000000 in
theorem imcheck_any (A : Option Addr) (n c : Nat) (xss : List (List Int)) (w : World) (ha : ILL w A n xss) :
    Calls Tryd.prog 29 #[.slice A n c] w fun e w' => e = .returned (.int .i64 (mfault xss)) ∧ w = w' := by
  have hl := ha.len
  have hns := ha.small
  have HA := hide ha
  have HL := hide hl
  by_cases h6 : 6 < n
  · have HF : Hid (mfault xss = 2) := hide (by unfold mfault; rw [if_pos (by omega)])
    clear ha hl
    go_enter Tryd.func29, Tryd.ntmps29
    go_wp2
    go_ret
    rw [HF.out]
    exact ⟨rfl, rfl⟩
  · have HF : Hid (mfault xss = mrows (xss.getD 0 []).length xss) := hide (by unfold mfault; rw [if_neg (by omega)])
    clear ha hl
    go_enter Tryd.func29, Tryd.ntmps29
    go_wp2
    go_loop [12] (fun iv => ∃ k : Nat, k ≤ n ∧ iv = .int .i64 k ∧ Hid (mfault xss = mrows (xss.getD 0 []).length (xss.drop k))) (fun iv => n - (intOf iv).toNat)
    case atStart => exact ⟨0, Nat.zero_le _, rfl, by rw [List.drop_zero]; exact HF.out⟩
    case round =>
      obtain ⟨k, hk, rfl, HK⟩ := hrel
      by_cases hlt : k < n
      · obtain ⟨ad, B, m, d, rfl, hcl, hil⟩ := HA.out.at_ hlt
        obtain ⟨ad', B0, m0, d0, e, hcl0, hil0⟩ := HA.out.at_ (k := 0) (by omega)
        injection e with e
        subst e
        rw [show ad.add 0 = ad by unfold Addr.add; simp] at hcl0
        have hm := hil.len
        have hm0 := hil0.len
        have hms := hil.small
        have HST := hide (mrows_step (k := (xss.getD 0 []).length) (xss := xss) (j := k) (by rw [HL.out]; exact hlt))
        have HIL := hide hil
        have HROW : Hid (mrow (xss.getD 0 []).length (xss.getD k []) = if 6 < m then 2 else if m ≠ m0 then 3 else if (xss.getD k []).all okE then 0 else 1) := hide (by unfold mrow; rw [hm, hm0])
        have HM := hide hm
        clear hil hil0 hm hm0
        by_cases h1 : 6 < m
        · have HE : Hid (mfault xss = 2) := hide (by rw [HK.out, HST.out, HROW.out, if_pos h1]; rfl)
          clear HST HROW
          go_wp2
          go_ret
          rw [HE.out]
          exact ⟨rfl, rfl⟩
        · by_cases h2 : m = m0
          · subst h2
            have HROW2 : Hid (mrow (xss.getD 0 []).length (xss.getD k []) = if (xss.getD k []).all okE then 0 else 1) := hide (by rw [HROW.out, if_neg h1, if_neg (by omega)])
            have hbe : ((m : Int) != (m : Int)) = false := by simp
            clear HROW
            go_wp2
            go_loop [28] (fun jv => ∃ j : Nat, j ≤ m ∧ jv = .int .i64 j ∧ Hid (((xss.getD k []).take j).all okE = true)) (fun jv => m - (intOf jv).toNat)
            case atStart => exact ⟨0, Nat.zero_le _, rfl, by rw [List.take_zero]; exact rfl⟩
            case round =>
              obtain ⟨j, hj, rfl, HJ⟩ := hrel
              by_cases hjl : j < m
              · obtain ⟨bd, rfl, hx⟩ := HIL.out.at_ hjl
                have HT := hide (all_take_okE (w := xss.getD k []) (k := j) (by rw [HM.out]; exact hjl))
                have HMEM : Hid ((xss.getD k []).getD j 0 ∈ xss.getD k []) := hide (getD_memI (by rw [HM.out]; exact hjl))
                obtain ⟨x, hxe⟩ : ∃ x, (xss.getD k []).getD j 0 = x := ⟨_, rfl⟩
                rw [hxe] at hx HT HMEM
                clear hxe
                by_cases hok : x ≤ 100 ∧ -100 ≤ x
                · have HN : Hid (((xss.getD k []).take (j + 1)).all okE = true) := hide (by rw [HT.out, HJ.out]; simp [okE, hok])
                  obtain ⟨ho1, ho2⟩ := hok
                  clear HT HJ
                  go_wp2
                  go_round
                  case rel => exact ⟨j + 1, by omega, by go_num, HN.out⟩
                  case measure => simp [intOf]; omega
                · have HN : Hid ((xss.getD k []).all okE = false) := hide (by
                    rw [Bool.eq_false_iff]
                    intro h
                    have := List.all_eq_true.1 h x HMEM.out
                    exact hok (by simpa [okE] using this))
                  have HE : Hid (mfault xss = 1) := hide (by rw [HK.out, HST.out, HROW2.out, HN.out]; rfl)
                  clear HT HJ HST HROW2
                  by_cases h3 : 100 < x
                  · clear hok
                    go_wp2
                    go_ret
                    rw [HE.out]
                    exact ⟨rfl, rfl⟩
                  · have h4 : x < -100 := by omega
                    clear hok
                    go_wp2
                    go_ret
                    rw [HE.out]
                    exact ⟨rfl, rfl⟩
              · have HALL : Hid ((xss.getD k []).all okE = true) := hide (by
                  have := HJ.out
                  rwa [List.take_of_length_le (by rw [HM.out]; omega)] at this)
                have HN : Hid (mfault xss = mrows (xss.getD 0 []).length (xss.drop (k + 1))) := hide (by rw [HK.out, HST.out, HROW2.out, HALL.out]; rfl)
                clear HJ HST HROW2 HALL
                go_wp2
                go_round
                case rel => exact ⟨k + 1, by omega, by go_num, HN.out⟩
                case measure => simp [intOf]; omega
          · have hbe : ((m : Int) != (m0 : Int)) = true := by simp; omega
            have HE : Hid (mfault xss = 3) := hide (by rw [HK.out, HST.out, HROW.out, if_neg h1, if_pos h2]; rfl)
            clear HST HROW h2
            go_wp2
            go_ret
            rw [HE.out]
            exact ⟨rfl, rfl⟩
      · have HE : Hid (mfault xss = 0) := hide (by rw [HK.out, List.drop_of_length_le (by rw [HL.out]; omega)]; rfl)
        go_wp2
        go_ret
        rw [HE.out]
        exact ⟨rfl, rfl⟩

set_option maxRecDepth 100000 in
set_option maxHeartbeats 2000000 in
theorem imgcd_any (a b : Int) (w : World) (ha : a.natAbs ≤ 4000000000000000000) (hb : b.natAbs ≤ 4000000000000000000) :
    Calls Tryd.prog 31 #[.int .i64 a, .int .i64 b] w fun e w' => e = .returned (.int .i64 (Int.gcd a b : Nat)) ∧ Below w.heap.size w w' := by
  obtain ⟨G, hG⟩ : ∃ G, Int.gcd a b = G := ⟨_, rfl⟩
  rw [hG]
  have HG := hide hG
  clear hG
  go_enter Tryd.func31, Tryd.ntmps31
  go_wp2_with fail
  go_loopw [0, 1] (fun av bv wr => ∃ x y : Int, av = .int .i64 x ∧ bv = .int .i64 y ∧ x.natAbs ≤ 4000000000000000000 ∧ y.natAbs ≤ 4000000000000000000 ∧ Hid (Int.gcd x y = G) ∧ Below w.heap.size w wr) (fun _ bv _ => (intOf bv).natAbs)
  case atStart => exact ⟨a, b, rfl, rfl, ha, hb, HG, Below.refl _ _⟩
  case round =>
    clear HG ha hb
    obtain ⟨x, y, rfl, rfl, hx, hy, HG, hbw⟩ := hrel
    have HB := hide hbw
    clear hbw
    by_cases h0 : y = 0
    · subst h0
      have hbe : ((0 : Int) != 0) = false := rfl
      have hw : IntKind.i64.wrap (-x) = -x := by rw [IntKind.wrap_i64]; omega
      have hg : (x.natAbs : Int) = G := by have := HG.out; simp at this; omega
      by_cases h : x ≤ 0
      · have HN : Hid ((G : Int) = -x) := hide (by omega)
        clear hg HG
        go_wp2_with fail
        all_goals
          go_ret
          rw [HN.out]
          refine ⟨?_, HB.out⟩
          first | rfl | (congr 2; omega) | (simp; omega)
      · have HN : Hid ((G : Int) = x) := hide (by omega)
        clear hg HG
        go_wp2_with fail
        all_goals
          go_ret
          rw [HN.out]
          refine ⟨?_, HB.out⟩
          first | rfl | (congr 2; omega) | (simp; omega)
    · have hbe : (y != 0) = true := by simpa using h0
      have hlt : (x.tmod y).natAbs < y.natAbs := by
        rw [Int.natAbs_tmod]
        exact Nat.mod_lt _ (by omega)
      have HN : Hid (Int.gcd y (x.tmod y) = G) := hide (by rw [gcd_tmod]; exact HG.out)
      clear HG
      go_upto_region 2 with fail
      go_quiet (fail)
      go_wp2_with fail
      go_roundw
      case rel => exact ⟨y, x.tmod y, rfl, rfl, hy, by omega, HN, below_drewN HB.out _⟩
      case measure => exact hlt
end Go.Proofs.YtndgffiihbdppaaDoor
/- Package intmatrix: expand. -/
namespace Go.Proofs.YtndgffiihbdppaaDoor
set_option linter.unusedVariables false
set_option linter.unusedSimpArgs false
open Go.RowKit

/-- The rows of the table below R stand. -/
def TabR (w : World) (g M : Nat) (F : Mtx Int) (m R : Nat) : Prop := ∀ r, r < R → ∃ B, w.cell? ⟨g, r, none⟩ = some (.slice B M M) ∧ SL w B M M (mnrL F m r)

theorem pow_wrap : ∀ c : Nat, c < 6 → wrap64 ((2 : Int) ^ c) = ((2 ^ c : Nat) : Int) := by decide +kernel
theorem not_wrap {S c : Nat} (hS : S < 64) (hc : c < 6) (hb : S.testBit c = true) : bits BinOp.andNot IntKind.i64 (S : Int) (wrap64 ((2 : Int) ^ c)) = ((S - 2 ^ c : Nat) : Int) := by
  rw [pow_wrap c hc, set_andNot S hS c hc hb]
theorem and_wrap {S c : Nat} (hS : S < 64) (hc : c < 6) : (bits BinOp.and IntKind.i64 (S : Int) (wrap64 ((2 : Int) ^ c)) != 0) = S.testBit c := by
  rw [pow_wrap c hc, set_and S hS c hc]

set_option maxRecDepth 100000 in
set_option maxHeartbeats 4000000 in
theorem expand_any (A : Option Addr) (n c g N m R C : Nat) (xss : List (List Int)) (w : World) (ha : SLL w A n c xss) (hf : mfault xss = 0) (hT : TabW w) (hm : colsM xss = m) (hN : R < N) (hR : R < 2 ^ n) (hC : C < 2 ^ m) (hs : sizeN R = sizeN C)
    (ht : TabR w g (2 ^ m) (matF xss) m R) :
    Calls Tryd.prog 73 #[.slice A n c, .slice (some ⟨g, 0, none⟩) N N, .int .i64 R, .int .i64 C] w fun e w' => e = .returned (.int .i64 (mnr (matF xss) R C)) ∧ w' = w := by
  obtain ⟨hn6, hm6, hrow, hent⟩ := mat_rows hf
  have hl := ha.len
  rw [hl] at hn6 hrow
  rw [hm] at hm6 hrow
  have hn64 : 2 ^ n ≤ 64 := Nat.le_trans (Nat.pow_le_pow_right (by omega) hn6) (by decide)
  have hm64 : 2 ^ m ≤ 64 := Nat.le_trans (Nat.pow_le_pow_right (by omega) hm6) (by decide)
  have hR64 : R < 64 := by omega
  have hC64 : C < 64 := by omega
  by_cases h0 : R = 0
  · subst h0
    have hz : Hid (mnr (matF xss) 0 C = 1) := hide (mnr_zero _ hs)
    rw [hz.out]
    clear ha ht hT hrow hent hz
    go_enter Tryd.func73, Tryd.ntmps73
    go_wp2
    go_ret
    exact ⟨rfl, rfl⟩
  · have hr0 : ((R : Int) == 0) = false := by simp; omega
    have hwR : IntKind.u64.wrap (R : Int) = (R : Int) := by rw [IntKind.wrap_u64]; omega
    have HTZ := hide (tz_any R w hR64 h0 hT)
    have hlow := low_below n (by omega) R hR h0
    obtain ⟨l1, l2, l3, l4⟩ := low_facts R hR64 h0
    have hAN := not_wrap hR64 (by omega : lowN R < 6) l2
    obtain ⟨ad, B, mm, d, rfl, hcr, hsl⟩ := ha.at_ hlow
    have hmm := hsl.il.len
    rw [hrow _ hlow] at hmm
    obtain ⟨D, hcd, hsd⟩ := ht (R - 2 ^ lowN R) l3
    subst hmm
    have HSL := hide hsl
    have HSD := hide hsd
    have HPS : Hid (∀ k, k < m → C.testBit k = true → expP (matF xss) R C (k + 1) = expP (matF xss) R C k + CR.sgR Int (cntB C k) * matF xss (lowN R) k * mnr (matF xss) (R - 2 ^ lowN R) (C - 2 ^ k)) := hide (fun k hk hb => expP_set hR64 h0 hC64 (by omega) hb hs)
    have HPN : Hid (∀ k, k < m → C.testBit k = false → expP (matF xss) R C (k + 1) = expP (matF xss) R C k) := hide (fun k hk hb => expP_not hC64 (by omega) hb)
    have HPE : Hid (expP (matF xss) R C m = mnr (matF xss) R C) := hide (expP_end hR64 h0 hm6 hC hs)
    have HPL : Hid (∀ k, k ≤ m → (expP (matF xss) R C k).natAbs ≤ 720000000000000) := hide (fun k hk => expP_le hR64 h0 hC64 (by omega) hent)
    have HML : Hid (∀ k, (mnr (matF xss) (R - 2 ^ lowN R) k).natAbs ≤ 1200000000000) := hide (fun k => mnr_small5 (by omega) (by have := size_le R hR64; omega) hent)
    have HEL : Hid (∀ k, (matF xss (lowN R) k).natAbs ≤ 100) := hide (fun k => hent _ k)
    have HBF : Hid (∀ k, k < m → C.testBit k = true → cntB C (k + 1) = cntB C k + 1 ∧ bits BinOp.andNot IntKind.i64 (C : Int) (wrap64 ((2 : Int) ^ k)) = ((C - 2 ^ k : Nat) : Int) ∧ C - 2 ^ k < 2 ^ m) := hide (fun k hk hb => ⟨(bit_facts C hC64 k (by omega) hb).2.2.1, not_wrap hC64 (by omega) hb, Nat.lt_of_le_of_lt (Nat.sub_le _ _) hC⟩)
    have HBN : Hid (∀ k, k < m → C.testBit k = false → cntB C (k + 1) = cntB C k) := hide (fun k hk hb => nobit_facts C hC64 k (by omega) hb)
    have HBA : Hid (∀ k, k < m → (bits BinOp.and IntKind.i64 (C : Int) (wrap64 ((2 : Int) ^ k)) != 0) = C.testBit k) := hide (fun k hk => and_wrap hC64 (by omega))
    have HMF : Hid (∀ k, matF xss (lowN R) k = (xss.getD (lowN R) []).getD k 0) := hide (fun k => rfl)
    have HGD : Hid (∀ k, k < 2 ^ m → (mnrL (matF xss) m (R - 2 ^ lowN R)).getD k 0 = mnr (matF xss) (R - 2 ^ lowN R) k) := hide (fun k hk => mnrL_getD _ hk)
    clear ha ht hT hrow hent hsl hsd l1 l2 l4 hC hs hR
    generalize 2 ^ m = MM at *
    generalize R - 2 ^ lowN R = R' at *
    generalize lowN R = f at *
    go_enter Tryd.func73, Tryd.ntmps73
    go_wp2_with fail
    refine HTZ.out.mono ?_
    rintro e w' ⟨rfl, rfl⟩
    clear HTZ
    go_wp2_with (simp only [hAN])
    go_loop [11, 12, 32] (fun dv sv iv => ∃ k : Nat, k ≤ m ∧ iv = .int .i64 k ∧ dv = .int .i64 (expP (matF xss) R C k) ∧ sv = .int .i64 (CR.sgR Int (cntB C k))) (fun _ _ iv => m - (intOf iv).toNat)
    case atStart => exact ⟨0, Nat.zero_le _, rfl, rfl, rfl⟩
    case round =>
      obtain ⟨k, hk, rfl, rfl, rfl⟩ := hrel
      by_cases hlt : k < m
      · obtain ⟨rd, rfl, hx⟩ := HSL.out.il.at_ hlt
        rw [← HMF.out] at hx
        have hba := HBA.out k hlt
        by_cases hb : C.testBit k = true
        · rw [hb] at hba
          obtain ⟨q1, q2, q3⟩ := HBF.out k hlt hb
          obtain ⟨td, rfl, hy⟩ := HSD.out.il.at_ q3
          rw [HGD.out _ q3] at hy
          have HS := hide (HPS.out k hlt hb)
          have HQ : Hid (cntB C (k + 1) = cntB C k + 1) := hide q1
          have hxl := HEL.out k
          have hyl := HML.out (C - 2 ^ k)
          have hp := HPL.out k (by omega)
          have hp2 := HPL.out (k + 1) (by omega)
          rw [HS.out] at hp2
          have hsg := sgR_cases (cntB C k)
          have HSG := hide (sgR_next (cntB C k))
          have hsx : (CR.sgR Int (cntB C k) * matF xss f k).natAbs ≤ 100 := by
            rcases hsg with h | h <;> rw [h] <;> omega
          have hsxy := abs_mul_le hsx hyl
          clear hb q1
          generalize C - 2 ^ k = C' at *
          generalize mnr (matF xss) R' C' = y at *
          generalize matF xss f k = x at *
          generalize expP (matF xss) R C k = p at *
          generalize cntB C k = c1 at *
          obtain ⟨sg, hsge⟩ : ∃ sg, CR.sgR Int c1 = sg := ⟨_, rfl⟩
          rw [hsge] at hsg HSG hsx hsxy HS hp2 ⊢
          have w1 : IntKind.i64.wrap (sg * x) = sg * x := by rw [IntKind.wrap_i64]; omega
          have w2 : IntKind.i64.wrap (sg * x * y) = sg * x * y := by rw [IntKind.wrap_i64]; omega
          have w3 : IntKind.i64.wrap (p + sg * x * y) = p + sg * x * y := by rw [IntKind.wrap_i64]; omega
          have w4 : IntKind.i64.wrap (-sg) = -sg := by rw [IntKind.wrap_i64]; omega
          clear hsge hxl hyl hp hp2 hsx hsxy
          go_wp2_with (simp only [q2])
          go_round
          case rel => exact ⟨k + 1, by omega, by go_num, by rw [HS.out], by rw [HQ.out, HSG.out]⟩
          case measure => simp [intOf]; omega
        · have hb : C.testBit k = false := by simpa using hb
          rw [hb] at hba
          have HN := hide (HPN.out k hlt hb)
          have HC := hide (HBN.out k hlt hb)
          clear hb
          go_wp2_with fail
          go_round
          case rel => exact ⟨k + 1, by omega, by go_num, by rw [HN.out], by rw [HC.out]⟩
          case measure => simp [intOf]; omega
      · have hkm : k = m := by omega
        subst hkm
        rw [HPE.out]
        go_wp2_with fail
        go_ret
        exact ⟨rfl, rfl⟩
end Go.Proofs.YtndgffiihbdppaaDoor
/- slices.Clone of a slice of rows. -/
namespace Go.Proofs.YtndgffiihbdppaaDoor
set_option linter.unusedVariables false
set_option linter.unusedSimpArgs false
open Go.RowKit

/-- The values are slices that read as the rows. -/
structure RowsS (w : World) (vs : List Value) (xss : List (List Int)) : Prop where
  len : vs.length = xss.length
  row : ∀ j, j < xss.length → ∃ B m d, vs[j]? = some (.slice B m d) ∧ SL w B m d (xss.getD j [])
theorem RowsS.below {w w' : World} {vs : List Value} {xss : List (List Int)} (h : RowsS w vs xss) (hb : Below w.heap.size w w') : RowsS w' vs xss := ⟨h.len, fun j hj => by
  obtain ⟨B, m, d, h1, h2⟩ := h.row j hj
  exact ⟨B, m, d, h1, h2.below hb⟩⟩
theorem RowsS.set_ {w : World} {vs : List Value} {xss : List (List Int)} {j : Nat} {B : Option Addr} {m d : Nat} {r : List Int} (h : RowsS w vs xss) (hs : SL w B m d r) : RowsS w (vs.set j (.slice B m d)) (xss.set j r) := by
  refine ⟨by simp [h.len], fun i hi => ?_⟩
  rw [List.length_set] at hi
  by_cases e : j = i
  · subst e
    refine ⟨B, m, d, by rw [List.getElem?_set_self (by rw [h.len]; exact hi)], ?_⟩
    have : (xss.set j r).getD j [] = r := by simp [List.getD, List.getElem?_set_self hi]
    rw [this]
    exact hs
  · obtain ⟨B', m', d', h1, h2⟩ := h.row i hi
    refine ⟨B', m', d', by rw [List.getElem?_set_ne e]; exact h1, ?_⟩
    have : (xss.set j r).getD i [] = xss.getD i [] := by simp [List.getD, List.getElem?_set_ne e]
    rw [this]
    exact h2
theorem OwnV.set_ {w : World} {base g n c : Nat} {vs : List Value} (h : OwnV w base (some ⟨g, 0, none⟩) n c vs) (j : Nat) (u : Value) : OwnV (w.setCell ⟨g, j, none⟩ u) base (some ⟨g, 0, none⟩) n c (vs.set j u) := ⟨(h.own.stored j u).1, h.small⟩
theorem OwnV.frozen {w : World} {base g n c : Nat} {vs : List Value} (h : OwnV w base (some ⟨g, 0, none⟩) n c vs) (j : Nat) : w.frozen? ⟨g, j, none⟩ = false := h.own.frozenAt j

end Go.Proofs.YtndgffiihbdppaaDoor
