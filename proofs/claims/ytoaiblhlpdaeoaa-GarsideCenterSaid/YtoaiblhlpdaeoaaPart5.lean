/- Several texts in one. -/
import Derived.Test.YtoaiblhlpdaeoaaPart3
import Derived.Test.YtoaiblhlpdaeoaaPart4
import Derived.BigQuiet
import Derived.BigRegion
import Derived.Handy
import Derived.Test.YtoaiblhlpdaeoaaPart2
import Derived.Test.YtoaiblhlpdaeoaaBase1
import Derived.Test.YtoaiblhlpdaeoaaPart1
import Derived.Deep.DeepCutAuto
/- Package garside: descent, looseAt, exchange, halfTwist, isHalfTwist, isIdentity, mirror. -/
namespace Go.Proofs.Ytoaiblhlpdaeoaa
set_option linter.unusedVariables false
set_option linter.unusedSimpArgs false
open Go.RowKit

/-- A place, or -1. -/
def dsI : Option Nat → Int
  | some i => (i : Int)
  | none => -1
theorem firstD_no {p : List Nat} (h : ∀ j, j + 1 < p.length → p.getD j 0 ≤ p.getD (j + 1) 0) : Gar.firstD p = none := by
  cases hf : Gar.firstD p with
  | none => rfl
  | some i =>
    obtain ⟨h1, h2⟩ := Gar.firstD_some hf
    have := h i h1
    omega
/-- Whether the crossing at i can be moved. -/
def loB (c b : List Nat) (i : Nat) : Bool := decide (b.getD (i + 1) 0 < b.getD i 0) && decide (c.getD i 0 < c.getD (i + 1) 0)
theorem loose_no {c b : List Nat} (h : ∀ j, j + 1 < b.length → loB c b j = false) : loose c b = none := by
  unfold loose
  rw [List.find?_eq_none]
  intro j hj
  rw [List.mem_range] at hj
  have := h j (by omega)
  unfold loB at this
  rw [this]
  simp
theorem loose_yes {c b : List Nat} {k : Nat} (hk : k + 1 < b.length) (h : loB c b k = true) (hb : ∀ j, j < k → loB c b j = false) : loose c b = some k := find_first (by exact h) (fun j hj => by exact hb j hj) _ (by omega)

set_option maxRecDepth 100000 in
set_option maxHeartbeats 4000000 in
theorem gdescent_any (A : Option Addr) (n c : Nat) (p : List Nat) (w : World) (ha : IL w A n (zs p)) (hl : p.length = n) :
    Calls Try.prog 96 #[.slice A n c] w fun e w' => e = .returned (.int .i64 (dsI (Gar.firstD p))) ∧ Below w.heap.size w w' := by
  have HA := hide ha
  have HL := hide hl
  have hns := ha.small
  clear ha hl
  have hwn : IntKind.i64.wrap ((n : Int) - 1) = (n : Int) - 1 := by rw [IntKind.wrap_i64]; omega
  go_enter Try.func96, Try.ntmps96
  go_wp2_with fail
  go_loopw [7] (fun iv wr => ∃ k : Nat, (k = 0 ∨ k + 1 ≤ n) ∧ iv = .int .i64 (k : Int) ∧ Hid (∀ j, j < k → p.getD j 0 ≤ p.getD (j + 1) 0) ∧ Hid (Below w.heap.size w wr)) (fun iv _ => n - (intOf iv).toNat)
  case atStart => exact ⟨0, .inl rfl, rfl, hide (fun j h => absurd h (by omega)), hide (Below.refl _ _)⟩
  case round =>
    obtain ⟨k, hk, rfl, HN, HW⟩ := hrel
    by_cases hlt : k + 1 < n
    · have hcd : decide ((k : Int) < (n : Int) - 1) = true := decide_eq_true (by omega)
      obtain ⟨ad, rfl, hc0⟩ := (HA.out.below HW.out).at_ (k := k) (by omega)
      obtain ⟨_, e1, hc1⟩ := (HA.out.below HW.out).at_ (k := k + 1) hlt
      injection e1 with e1
      subst e1
      rw [zs_getD] at hc0 hc1
      obtain ⟨x, hx⟩ : ∃ x, p.getD k 0 = x := ⟨_, rfl⟩
      obtain ⟨y, hy⟩ : ∃ y, p.getD (k + 1) 0 = y := ⟨_, rfl⟩
      rw [hx] at hc0
      rw [hy] at hc1
      have HX := hide hx
      have HY := hide hy
      obtain ⟨i, hi⟩ : ∃ i, k + 1 = i := ⟨_, rfl⟩
      have hw1 : IntKind.i64.wrap ((k : Int) + 1) = (i : Int) := by rw [IntKind.wrap_i64]; omega
      have hw2 : (k : Int) + 1 = (i : Int) := by omega
      have hk0 : k < n := by omega
      have hi0 : i < n := by omega
      have HI := hide hi
      have HLT := hide hlt
      rw [hi] at hc1
      clear hx hy hk hi hlt
      by_cases hxy : y < x
      · have hd : decide ((y : Int) < (x : Int)) = true := decide_eq_true (by omega)
        have hdn : decide (y < x) = true := decide_eq_true hxy
        have HF := hide (firstD_eq (p := p) (k := k) (by rw [HL.out]; exact HLT.out) (by rw [HX.out, HY.out]; exact hxy) HN.out)
        clear HN
        go_upto_region 4 with fail
        go_quiet (fail)
        have HBE := hide (below_drewN HW.out nq)
        go_wp2_with fail
        go_ret
        exact ⟨by rw [HF.out]; rfl, HBE.out⟩
      · have hd : decide ((y : Int) < (x : Int)) = false := decide_eq_false (by omega)
        have hdn : decide (y < x) = false := decide_eq_false hxy
        have HN2 : Hid (∀ j, j < k + 1 → p.getD j 0 ≤ p.getD (j + 1) 0) := hide (fun j h1 => by
          by_cases e : j = k
          · subst e; rw [HX.out, HY.out]; omega
          · exact HN.out j (by omega))
        clear HN
        go_upto_region 4 with fail
        go_quiet (fail)
        have HBE := hide (below_drewN HW.out nq)
        go_wp2_with fail
        go_roundw
        case rel => exact ⟨k + 1, .inr (by have := HLT.out; omega), by rw [← HI.out], HN2, HBE⟩
        case measure => have := HI.out; simp [intOf]; omega
    · have hcd : decide ((k : Int) < (n : Int) - 1) = false := decide_eq_false (by omega)
      have HF := hide (firstD_no (p := p) (fun j hj => HN.out j (by rw [HL.out] at hj; omega)))
      clear HN hk
      go_wp2_with fail
      go_ret
      exact ⟨by rw [HF.out]; rfl, HW.out⟩

set_option maxRecDepth 100000 in
set_option maxHeartbeats 4000000 in
theorem gloose_any (A B : Option Addr) (n cc cb : Nat) (c b : List Nat) (w : World) (hc : IL w A n (zs c)) (hb : IL w B n (zs b)) (hl : b.length = n) :
    Calls Try.prog 103 #[.slice A n cc, .slice B n cb] w fun e w' => e = .returned (.int .i64 (dsI (loose c b))) ∧ Below w.heap.size w w' := by
  have HC := hide hc
  have HB := hide hb
  have HL := hide hl
  have hns := hb.small
  clear hc hb hl
  have hwn : IntKind.i64.wrap ((n : Int) - 1) = (n : Int) - 1 := by rw [IntKind.wrap_i64]; omega
  go_enter Try.func103, Try.ntmps103
  go_wp2_with fail
  go_loopw [9] (fun iv wr => ∃ k : Nat, (k = 0 ∨ k + 1 ≤ n) ∧ iv = .int .i64 (k : Int) ∧ Hid (∀ j, j < k → loB c b j = false) ∧ Hid (Below w.heap.size w wr)) (fun iv _ => n - (intOf iv).toNat)
  case atStart => exact ⟨0, .inl rfl, rfl, hide (fun j h => absurd h (by omega)), hide (Below.refl _ _)⟩
  case round =>
    obtain ⟨k, hk, rfl, HN, HW⟩ := hrel
    by_cases hlt : k + 1 < n
    · have hcd : decide ((k : Int) < (n : Int) - 1) = true := decide_eq_true (by omega)
      obtain ⟨ad, rfl, hb0⟩ := (HB.out.below HW.out).at_ (k := k) (by omega)
      obtain ⟨_, e1, hb1⟩ := (HB.out.below HW.out).at_ (k := k + 1) hlt
      injection e1 with e1
      subst e1
      obtain ⟨cd, rfl, hc0⟩ := (HC.out.below HW.out).at_ (k := k) (by omega)
      obtain ⟨_, e1, hc1⟩ := (HC.out.below HW.out).at_ (k := k + 1) hlt
      injection e1 with e1
      subst e1
      rw [zs_getD] at hb0 hb1 hc0 hc1
      have HV : Hid (loB c b k = (decide (b.getD (k + 1) 0 < b.getD k 0) && decide (c.getD k 0 < c.getD (k + 1) 0))) := hide rfl
      have HYS : Hid (loB c b k = true → loose c b = some k) := hide (fun h => loose_yes (by rw [HL.out]; exact hlt) h HN.out)
      have HNO : Hid (loB c b k = false → ∀ j, j < k + 1 → loB c b j = false) := hide (fun h j h1 => by
        rcases Nat.lt_or_ge j k with h3 | h3
        · exact HN.out j h3
        · rw [show j = k by omega]; exact h)
      clear HN
      generalize b.getD k 0 = x at *
      generalize b.getD (k + 1) 0 = y at *
      generalize c.getD k 0 = u at *
      generalize c.getD (k + 1) 0 = v at *
      generalize loB c b k = t at *
      obtain ⟨i, hi⟩ : ∃ i, k + 1 = i := ⟨_, rfl⟩
      have hw1 : IntKind.i64.wrap ((k : Int) + 1) = (i : Int) := by rw [IntKind.wrap_i64]; omega
      have hw2 : (k : Int) + 1 = (i : Int) := by omega
      have hk0 : k < n := by omega
      have hi0 : i < n := by omega
      have HI := hide hi
      have HLT := hide hlt
      rw [hi] at hb1 hc1
      clear hk hi hlt
      by_cases hxy : y < x
      · have hd : decide ((y : Int) < (x : Int)) = true := decide_eq_true (by omega)
        have hdn : decide (y < x) = true := decide_eq_true hxy
        by_cases huv : u < v
        · have hd2 : decide ((u : Int) < (v : Int)) = true := decide_eq_true (by omega)
          have hdn2 : decide (u < v) = true := decide_eq_true huv
          have HF := hide (HYS.out (by rw [HV.out, hdn, hdn2]; rfl))
          clear HV HNO HYS
          go_upto_region 4 with fail
          go_quiet (fail)
          have HBE := hide (below_drewN HW.out nq)
          go_wp2_with fail
          go_ret
          exact ⟨by rw [HF.out]; rfl, HBE.out⟩
        · have hd2 : decide ((u : Int) < (v : Int)) = false := decide_eq_false (by omega)
          have hdn2 : decide (u < v) = false := decide_eq_false huv
          have HF := hide (HNO.out (by rw [HV.out, hdn, hdn2]; rfl))
          clear HV HNO HYS
          go_upto_region 4 with fail
          go_quiet (fail)
          have HBE := hide (below_drewN HW.out nq)
          go_wp2_with fail
          go_roundw
          case rel => exact ⟨k + 1, .inr (by have := HLT.out; omega), by rw [← HI.out], HF, HBE⟩
          case measure => have := HI.out; simp [intOf]; omega
      · have hd : decide ((y : Int) < (x : Int)) = false := decide_eq_false (by omega)
        have hdn : decide (y < x) = false := decide_eq_false hxy
        have HF := hide (HNO.out (by rw [HV.out, hdn]; rfl))
        clear HV HNO HYS
        go_upto_region 4 with fail
        go_quiet (fail)
        have HBE := hide (below_drewN HW.out nq)
        go_wp2_with fail
        go_roundw
        case rel => exact ⟨k + 1, .inr (by have := HLT.out; omega), by rw [← HI.out], HF, HBE⟩
        case measure => have := HI.out; simp [intOf]; omega
    · have hcd : decide ((k : Int) < (n : Int) - 1) = false := decide_eq_false (by omega)
      have HF := hide (loose_no (c := c) (b := b) (fun j hj => HN.out j (by rw [HL.out] at hj; omega)))
      clear HN hk
      go_wp2_with fail
      go_ret
      exact ⟨by rw [HF.out]; rfl, HW.out⟩

set_option maxRecDepth 100000 in
set_option maxHeartbeats 4000000 in
theorem gexch_any (base g n c : Nat) (p : List Nat) (i : Nat) (w : World) (ho : OwnI w base (some ⟨g, 0, none⟩) n c (zs p)) (hi : i + 1 < n) :
    Calls Try.prog 102 #[.slice (some ⟨g, 0, none⟩) n c, .int .i64 i] w fun e w' => e = .returned (.tuple #[]) ∧ OwnI w' base (some ⟨g, 0, none⟩) n c (zs (Gar.swapL p i)) ∧ w.grownBy w' (some g) := by
  have hns := ho.small
  have hi0 : i < n := by omega
  have hc1 : w.cell? ⟨g, i + 1, none⟩ = some (.int .i64 (p.getD (i + 1) 0 : Nat)) := by have := ho.cell hi; rw [zs_getD] at this; exact this
  have hc0 : w.cell? ⟨g, i, none⟩ = some (.int .i64 (p.getD i 0 : Nat)) := by have := ho.cell hi0; rw [zs_getD] at this; exact this
  have hf1 := ho.frozen (i + 1)
  have hf0 := ho.frozen i
  have HN := hide ((ho.set_ i ((p.getD (i + 1) 0 : Nat) : Int)).set_ (i + 1) ((p.getD i 0 : Nat) : Int))
  rw [zs_swap p i] at HN
  have HG := hide (chgA_trans (chgA_set (w := w) (g := g) (i := i) (v := .int .i64 ((p.getD (i + 1) 0 : Nat) : Int))) (chgA_set (g := g) (i := i + 1) (v := .int .i64 ((p.getD i 0 : Nat) : Int))))
  clear ho
  generalize ((p.getD (i + 1) 0 : Nat) : Int) = u at *
  generalize ((p.getD i 0 : Nat) : Int) = v at *
  have hwj : IntKind.i64.wrap (i : Int) = (i : Int) := by rw [IntKind.wrap_i64]; omega
  have hwj1 : IntKind.i64.wrap ((i : Int) + 1) = (i : Int) + 1 := by rw [IntKind.wrap_i64]; omega
  go_enter Try.func102, Try.ntmps102
  go_upto_region 0 with fail
  go_region
  go_wp2_with fail
  go_returns
  exact ⟨rfl, HN.out.drew, chgA_trans HG.out (chgA_below (Below.refl _ _).drew)⟩

set_option maxRecDepth 100000 in
set_option maxHeartbeats 4000000 in
theorem ghalf_any (n : Nat) (w : World) (hn : n ≤ 9) :
    Calls Try.prog 62 #[.int .i64 n] w (GivesOwn w (zs (Gar.fullL n))) := by
  obtain ⟨i0, hi0, hz0, hz1, hz2⟩ := info_parts int_info
  go_enter Try.func62, Try.ntmps62
  go_wp2_with (at_make; refine wpList_make_full _ rfl _ _ 22 rfl w.heap.size 3 i0 (.int .i64 0) 1 Try.underlying22 hi0 hz0 hz1 .i64 .i64 _ _ n rfl rfl rfl rfl (by rw [hz2]; omega) (by unfold maxLen; omega) (Nat.le_refl _) ?_; intro w2 hown2 hg2)
  have hB2 : Below w.heap.size w w2 := (Below.refl _ _).grown hg2 (Nat.le_refl _) (by intro k hk; cases hk)
  have hw2 := OwnI.zero (z := #[]) hown2 (by omega)
  have HO2 : Hid (OwnI w2 w.heap.size (some ⟨w.heap.size, 0, none⟩) n n (fillN (fun j => (n : Int) - 1 - (j : Int)) n 0)) := hide (by rw [fillN_zero]; exact hw2)
  have HB2 := hide hB2
  clear hown2 hg2 hw2 hB2
  go_loopw [9] (fun i wr => ∃ k : Nat, k ≤ n ∧ i = .int .i64 k ∧ Hid (OwnI wr w.heap.size (some ⟨w.heap.size, 0, none⟩) n n (fillN (fun j => (n : Int) - 1 - (j : Int)) n k)) ∧ Hid (Below w.heap.size w wr)) (fun i _ => n - (intOf i).toNat)
  case atStart => exact ⟨0, Nat.zero_le _, rfl, HO2, HB2⟩
  case round =>
    clear HO2 HB2
    obtain ⟨k, hk, rfl, HO, HB⟩ := hrel
    by_cases hlt : k < n
    · have hcell := HO.out.cell hlt
      have hfr := HO.out.frozen k
      have HN := hide (HO.out.set_ k ((n : Int) - 1 - (k : Int)))
      rw [fillN_set (fun j => (n : Int) - 1 - (j : Int)) n k] at HN
      generalize (fillN (fun j => (n : Int) - 1 - (j : Int)) n k).getD k 0 = z at *
      have hw1 : IntKind.i64.wrap ((n : Int) - 1) = (n : Int) - 1 := by rw [IntKind.wrap_i64]; omega
      have hw2 : IntKind.i64.wrap ((n : Int) - 1 - (k : Int)) = (n : Int) - 1 - (k : Int) := by rw [IntKind.wrap_i64]; omega
      go_wp2_with fail
      go_roundw
      case rel => exact ⟨k + 1, by omega, by go_num, HN, hide (HB.out.setCell (Nat.le_refl _) _)⟩
      case measure => simp [intOf]; omega
    · have hkn : k = n := by omega
      have HR : Hid (OwnI wr w.heap.size (some ⟨w.heap.size, 0, none⟩) n n (zs (Gar.fullL n))) := hide (by
        have h := HO.out
        rw [hkn, fillN_full (xs := zs (Gar.fullL n)) (by rw [zs_length, (full_isP n).2]) (fun j hj => by rw [zs_getD, Gar.fullL_getD hj]; omega)] at h
        exact h)
      clear HO hkn
      go_wp2_with fail
      go_ret
      exact ⟨_, _, _, rfl, HR.out, HB.out⟩

set_option maxRecDepth 100000 in
set_option maxHeartbeats 2000000 in
theorem gisHalf_any (A : Option Addr) (n c : Nat) (p : List Nat) (w : World) (ha : SL w A n c (zs p)) (hn : n ≤ 9) :
    Calls Try.prog 51 #[.slice A n c] w fun e w' => e = .returned (.bool (decide (p = Gar.fullL n))) ∧ Below w.heap.size w w' := by
  have HA := hide ha
  clear ha
  go_enter Try.func51, Try.ntmps51
  go_wp2_with fail
  refine (ghalf_any n w hn).mono ?_
  rintro e w1 ⟨F, fn, fc, rfl, ho, hb⟩
  have HE := hide (equal_any A F n fn c fc _ _ w1 (HA.out.below hb).il ho.il)
  have HB := hide hb
  clear ho hb HA
  go_wp2_with fail
  refine HE.out.mono ?_
  rintro e w2 ⟨rfl, hb2⟩
  have HB2 := hide (HB.out.trans (hb2.mono HB.out.size))
  have HV : Hid (eqB (zs p) (zs (Gar.fullL n)) = decide (p = Gar.fullL n)) := hide (by
    by_cases h : p = Gar.fullL n
    · rw [eqB_true (by rw [h]), decide_eq_true h]
    · rw [eqB_false (fun e => h (zs_inj e)), decide_eq_false h])
  rw [HV.out]
  clear HV hb2
  go_wp2_with fail
  go_ret
  exact ⟨rfl, HB2.out⟩

theorem firstD_id {p : List Nat} {n : Nat} (hp : isP p) (hl : p.length = n) : decide (dsI (Gar.firstD p) < 0) = decide (p = List.range n) := by
  cases h : Gar.firstD p with
  | none =>
    have h1 := Gar.sorted_id hp (fun i hi => Gar.firstD_none h hi)
    rw [decide_eq_true (show dsI none < 0 by decide), decide_eq_true]
    exact Gar.list_ext (by rw [List.length_range]; exact hl) fun s hs => by rw [h1 s hs, range_getD (by omega)]
  | some i =>
    obtain ⟨h1, h2⟩ := Gar.firstD_some h
    show decide (((i : Nat) : Int) < 0) = _
    rw [decide_eq_false (show ¬ ((i : Nat) : Int) < 0 by omega), decide_eq_false]
    intro e
    subst e
    rw [hl] at h1
    rw [range_getD h1, range_getD (by omega)] at h2
    omega
set_option maxRecDepth 100000 in
set_option maxHeartbeats 2000000 in
theorem gisId_any (A : Option Addr) (n c : Nat) (p : List Nat) (w : World) (ha : SL w A n c (zs p)) (hp : isP p) (hl : p.length = n) :
    Calls Try.prog 52 #[.slice A n c] w fun e w' => e = .returned (.bool (decide (p = List.range n))) ∧ Below w.heap.size w w' := by
  have HD := hide (gdescent_any A n c p w ha.il hl)
  have HV := hide (firstD_id hp hl)
  clear ha hp hl
  go_enter Try.func52, Try.ntmps52
  go_wp2_with fail
  refine HD.out.mono ?_
  rintro e w1 ⟨rfl, hb⟩
  generalize dsI (Gar.firstD p) = d at *
  have HB := hide hb
  clear hb
  go_wp2_with fail
  go_ret
  exact ⟨by rw [← HV.out]; rfl, HB.out⟩

set_option maxRecDepth 100000 in
theorem gmirror_any (n x : Int) (w : World) (h0 : 0 ≤ n) (h6 : n ≤ 6) (h1 : -n < x) (h2 : x < n) :
    Calls Try.prog 93 #[.int .i64 n, .int .i64 x] w fun e w' => e = .returned (.int .i64 (mir n x 1)) ∧ w = w' := by
  have hw1 : IntKind.i64.wrap (n - x) = n - x := by rw [IntKind.wrap_i64]; omega
  have hw2 : IntKind.i64.wrap (-n) = -n := by rw [IntKind.wrap_i64]; omega
  have hw3 : IntKind.i64.wrap (-n - x) = -n - x := by rw [IntKind.wrap_i64]; omega
  by_cases hx : 0 < x
  · have HV : Hid (mir n x 1 = n - x) := hide (by unfold mir; rw [if_neg (by omega), if_pos hx])
    go_enter Try.func93, Try.ntmps93
    go_wp2_with fail
    go_ret
    exact ⟨by rw [HV.out]; rfl, rfl⟩
  · have HV : Hid (mir n x 1 = -n - x) := hide (by unfold mir; rw [if_neg (by omega), if_neg hx])
    go_enter Try.func93, Try.ntmps93
    go_wp2_with fail
    go_ret
    exact ⟨by rw [HV.out]; rfl, rfl⟩
end Go.Proofs.Ytoaiblhlpdaeoaa
/- Sums, and matrices whose rows are short sums of terms. (Split off XBuP: it needs no function of the program.) -/
namespace Go.Proofs.Ytoaiblhlpdaeoaa
set_option linter.unusedVariables false
set_option linter.unusedSimpArgs false
open Go.RowKit
def sumK (f : Nat → Nat) : Nat → Nat
  | 0 => 0
  | n + 1 => sumK f n + f n
theorem sumK_le {f g : Nat → Nat} : ∀ {n : Nat}, (∀ i, i < n → f i ≤ g i) → sumK f n ≤ sumK g n
  | 0, _ => Nat.le_refl _
  | n + 1, h => Nat.add_le_add (sumK_le fun i hi => h i (by omega)) (h n (by omega))
theorem sumK_mul (c : Nat) (f : Nat → Nat) : ∀ n, sumK (fun i => c * f i) n = c * sumK f n
  | 0 => rfl
  | n + 1 => by
    show sumK (fun i => c * f i) n + c * f n = c * (sumK f n + f n)
    rw [sumK_mul c f n, Nat.mul_add]
theorem sumK_mulr (c : Nat) (f : Nat → Nat) (n : Nat) : sumK (fun i => f i * c) n = sumK f n * c := by
  rw [Nat.mul_comm, ← sumK_mul]
  congr 1
  funext i
  exact Nat.mul_comm _ _
theorem sumK_add (f g : Nat → Nat) : ∀ n, sumK (fun i => f i + g i) n = sumK f n + sumK g n
  | 0 => rfl
  | n + 1 => by
    show sumK (fun i => f i + g i) n + (f n + g n) = sumK f n + f n + (sumK g n + g n)
    rw [sumK_add f g n]; omega
theorem sumK_zero : ∀ n, sumK (fun _ => 0) n = 0
  | 0 => rfl
  | n + 1 => sumK_zero n
theorem sumK_swap (f : Nat → Nat → Nat) (m : Nat) : ∀ n, sumK (fun i => sumK (fun j => f i j) m) n = sumK (fun j => sumK (fun i => f i j) n) m
  | 0 => by
    show 0 = sumK (fun _ => 0) m
    rw [sumK_zero]
  | n + 1 => by
    show sumK (fun i => sumK (fun j => f i j) m) n + sumK (fun j => f n j) m = sumK (fun j => sumK (fun i => f i j) n + f n j) m
    rw [sumK_swap f m n, sumK_add]
theorem LP.N1.sumK {f : Nat → LP} {g : Nat → Nat} {E : Nat} : ∀ {n : Nat}, (∀ i, i < n → LP.N1 (f i) E (g i)) → LP.N1 (CR.sumN n f) E (Proofs.Ytoaiblhlpdaeoaa.sumK g n)
  | 0, _ => LP.N1.zero.mono (Nat.zero_le _) (Nat.zero_le _)
  | n + 1, h => by
    rw [CR.sumN_succ]
    exact (LP.N1.sumK fun i hi => h i (by omega)).add (h n (by omega))
/-- Each row is a short sum of terms. -/
def RN (n : Nat) (A : Mtx LP) (E V : Nat) : Prop := ∃ v : Nat → Nat → Nat, (∀ i, i < n → ∀ j, j < n → LP.N1 (A i j) E (v i j)) ∧ ∀ i, i < n → sumK (v i) n ≤ V
theorem RN.mul {n E V E' V' : Nat} {A B : Mtx LP} (hA : RN n A E V) (hB : RN n B E' V') : RN n (mulM n A B) (E + E') (V * V') := by
  obtain ⟨v, h1, h2⟩ := hA
  obtain ⟨u, h3, h4⟩ := hB
  refine ⟨fun i j => sumK (fun k => v i k * u k j) n, fun i hi j hj => LP.N1.sumK fun k hk => (h1 i hi k hk).mul (h3 k hk j hj), fun i hi => ?_⟩
  show sumK (fun j => sumK (fun k => v i k * u k j) n) n ≤ V * V'
  rw [sumK_swap]
  have e : sumK (fun k => sumK (fun j => v i k * u k j) n) n ≤ sumK (fun k => v i k * V') n := sumK_le fun k hk => by
    rw [sumK_mul]
    exact Nat.mul_le_mul_left _ (h4 k hk)
  refine Nat.le_trans e ?_
  rw [sumK_mulr]
  exact Nat.mul_le_mul_right _ (h2 i hi)
theorem RN.congr {n E V : Nat} {A B : Mtx LP} (h : RN n A E V) (e : EqM n A B) : RN n B E V := by
  obtain ⟨v, h1, h2⟩ := h
  exact ⟨v, fun i hi j hj => by rw [← e i hi j hj]; exact h1 i hi j hj, h2⟩
theorem RN.mono {n E V E' V' : Nat} {A : Mtx LP} (h : RN n A E V) (h1 : E ≤ E') (h2 : V ≤ V') : RN n A E' V' := by
  obtain ⟨v, h3, h4⟩ := h
  exact ⟨v, fun i hi j hj => (h3 i hi j hj).mono h1 (Nat.le_refl _), fun i hi => Nat.le_trans (h4 i hi) h2⟩
end Go.Proofs.Ytoaiblhlpdaeoaa
/- Package braid: block. -/
namespace Go.Proofs.Ytoaiblhlpdaeoaa
set_option linter.unusedVariables false
set_option linter.unusedSimpArgs false
open Go.RowKit

theorem canon_zero : LP.canon 0 = (0, []) := LP.canon_eq (.inl ⟨rfl, rfl⟩) rfl
end Go.Proofs.Ytoaiblhlpdaeoaa
/- Reading slices of anything within a set of blocks; slices that the call builds item by item. -/
namespace Go.Proofs.Ytoaiblhlpdaeoaa
set_option linter.unusedVariables false
set_option linter.unusedSimpArgs false
open Go.RowKit

/-- The blocks of K are as they were. -/
def SameK (K : Nat → Prop) (w w' : World) : Prop := ∀ b, K b → w'.heap[b]? = w.heap[b]?
theorem SameK.cell {K : Nat → Prop} {w w' : World} (h : SameK K w w') {a : Addr} (ha : K a.block) : w'.cell? a = w.cell? a := World.cell?_of_block (w := w) (h a.block ha)
theorem SameK.below {B : Nat} {w w' : World} (h : Below B w w') : SameK (fun b => b < B) w w' := fun b hb => h.block b hb
theorem SameK.grown {w w' : World} {row : Option Nat} (h : w.grownBy w' row) : SameK (fun b => b < w.heap.size ∧ row ≠ some b) w w' := fun b hb => h.block b hb.1 (fun e => hb.2 e.symm)
theorem SameK.mono {K K' : Nat → Prop} {w w' : World} (h : SameK K w w') (hk : ∀ b, K' b → K b) : SameK K' w w' := fun b hb => h b (hk b hb)
theorem cell_lt {w : World} {a : Addr} {v : Value} (h : w.cell? a = some v) : a.block < w.heap.size := by
  rcases Nat.lt_or_ge a.block w.heap.size with h1 | h1
  · exact h1
  · unfold World.cell? at h
    rw [show w.heap[a.block]? = none by simpa using h1] at h
    cases h

/-- A reading of an item out of its cells: it looks at blocks of K alone. -/
abbrev RdI (α : Type) := (Nat → Prop) → World → List Value → α → Prop
structure RdOk {α : Type} (Q : RdI α) : Prop where
  keep : ∀ {K : Nat → Prop} {w w' : World} {us : List Value} {y : α}, SameK K w w' → w.heap.size ≤ w'.heap.size → Q K w us y → Q K w' us y
  mono : ∀ {K K' : Nat → Prop} {w : World} {us : List Value} {y : α}, (∀ b, b < w.heap.size → K b → K' b) → Q K w us y → Q K' w us y

/-- A slice that reads as ys; each item takes sz cells. -/
structure RdS {α : Type} (Q : RdI α) (sz : Nat) (K : Nat → Prop) (w : World) (A : Option Addr) (n c : Nat) (ys : List α) : Prop where
  len : ys.length = n
  small : n ≤ 17592186044416
  nil : A = none → n = 0 ∧ c = 0
  cap : n ≤ c
  mem : 0 < n → ∃ ad, A = some ad ∧ ad.block < w.heap.size ∧ K ad.block ∧ ∀ j (hj : j < ys.length), ∃ us : List Value, us.length = sz ∧ w.cell? (ad.add (j * sz)) = us[0]? ∧ (∀ i, i < sz → w.cell? ⟨(ad.add (j * sz)).block, (ad.add (j * sz)).off + i, none⟩ = us[i]?) ∧ Q K w us ys[j]
section
variable {α : Type} {Q : RdI α} {sz n c : Nat} {K K' : Nat → Prop} {w w' : World} {A : Option Addr} {ys : List α}
theorem RdS.keep (hQ : RdOk Q) (h : RdS Q sz K w A n c ys) (hk : SameK K w w') (hs : w.heap.size ≤ w'.heap.size) : RdS Q sz K w' A n c ys :=
  ⟨h.len, h.small, h.nil, h.cap, fun hn => by
    obtain ⟨ad, e, hl, hb, hc⟩ := h.mem hn
    refine ⟨ad, e, Nat.lt_of_lt_of_le hl hs, hb, fun j hj => ?_⟩
    obtain ⟨us, h1, h0, h2, h3⟩ := hc j hj
    exact ⟨us, h1, (hk.cell (by rw [block_of_add]; exact hb)).trans h0, fun i hi => (hk.cell (by show K (ad.add (j * sz)).block; rw [block_of_add]; exact hb)).trans (h2 i hi), hQ.keep hk hs h3⟩⟩
theorem RdS.mono (hQ : RdOk Q) (h : RdS Q sz K w A n c ys) (hk : ∀ b, b < w.heap.size → K b → K' b) : RdS Q sz K' w A n c ys :=
  ⟨h.len, h.small, h.nil, h.cap, fun hn => by
    obtain ⟨ad, e, hl, hb, hc⟩ := h.mem hn
    refine ⟨ad, e, hl, hk _ hl hb, fun j hj => ?_⟩
    obtain ⟨us, h1, h0, h2, h3⟩ := hc j hj
    exact ⟨us, h1, h0, h2, hQ.mono hk h3⟩⟩
theorem RdS.nil_ (Q : RdI α) (sz : Nat) (K : Nat → Prop) (w : World) : RdS Q sz K w none 0 0 [] := ⟨rfl, by omega, fun _ => ⟨rfl, rfl⟩, Nat.le_refl _, fun h => absurd h (by omega)⟩
end
/-- A slice as it stands in the world: all that it reads is there. -/
abbrev Rd {α : Type} (Q : RdI α) (sz : Nat) (w : World) (A : Option Addr) (n c : Nat) (ys : List α) : Prop := RdS Q sz (fun b => b < w.heap.size) w A n c ys
theorem Rd.below {α : Type} {Q : RdI α} {sz n c : Nat} {w w' : World} {A : Option Addr} {ys : List α} (hQ : RdOk Q) (h : Rd Q sz w A n c ys) (hb : Below w.heap.size w w') : Rd Q sz w' A n c ys :=
  (h.keep hQ (SameK.below hb) hb.size).mono hQ fun b _ hl => Nat.lt_of_lt_of_le hl hb.size

structure SLK (K : Nat → Prop) (w : World) (A : Option Addr) (n c : Nat) (xs : List Int) : Prop where
  sl : SL w A n c xs
  inK : 0 < n → ∀ ad, A = some ad → K ad.block
theorem SLK.keep {K : Nat → Prop} {w w' : World} {A : Option Addr} {n c : Nat} {xs : List Int} (h : SLK K w A n c xs) (hk : SameK K w w') (hs : w.heap.size ≤ w'.heap.size) : SLK K w' A n c xs :=
  ⟨⟨⟨h.sl.il.len, h.sl.il.small, fun hn => by
    obtain ⟨ad, e, hl, hc⟩ := h.sl.il.mem hn
    refine ⟨ad, e, Nat.lt_of_lt_of_le hl hs, fun j hj => ?_⟩
    rw [← hc j hj]
    exact hk.cell (by rw [block_of_add]; exact h.inK hn ad e)⟩, h.sl.nil, h.sl.cap⟩, h.inK⟩
theorem SLK.mono {K K' : Nat → Prop} {w : World} {A : Option Addr} {n c : Nat} {xs : List Int} (h : SLK K w A n c xs) (hk : ∀ b, b < w.heap.size → K b → K' b) : SLK K' w A n c xs :=
  ⟨h.sl, fun hn ad e => hk _ (by
    obtain ⟨ad', e', hl, _⟩ := h.sl.il.mem hn
    rw [e] at e'; injection e' with e'; rw [e']; exact hl) (h.inK hn ad e)⟩
theorem SL.k {w : World} {A : Option Addr} {n c : Nat} {xs : List Int} (h : SL w A n c xs) : SLK (fun b => b < w.heap.size) w A n c xs := ⟨h, fun hn ad e => h.inside hn ad e⟩
section
variable {α : Type} {Q : RdI α} {n c k : Nat} {K : Nat → Prop} {w : World} {A : Option Addr} {ys : List α}
theorem RdS.inK (h : RdS Q n K w A c k ys) : 0 < c → ∀ ad, A = some ad → K ad.block ∧ ad.block < w.heap.size := fun hn ad e => by
  obtain ⟨ad', e', hl, hb, _⟩ := h.mem hn
  rw [e] at e'; injection e' with e'; subst e'; exact ⟨hb, hl⟩
end

/-! ### built by the call -/
/-- A slice of the call's own, with elements of type e and sz cells. -/
structure OwnG (e : TypeId) (sz : Nat) (w : World) (base : Nat) (A : Option Addr) (n c : Nat) (vs : List Value) : Prop where
  own : w.ownsRow base e sz (.slice A n c) n vs
  small : n ≤ 1000000
section
variable {e : TypeId} {sz base n c : Nat} {w w' : World} {A : Option Addr} {vs : List Value}
theorem OwnG.nil_ (e : TypeId) (sz : Nat) (w : World) (base : Nat) : OwnG e sz w base none 0 0 [] := ⟨World.ownsRow_nil _ _ _ _, by omega⟩
theorem OwnG.len (h : OwnG e sz w base A n c vs) : vs.length = n * sz := h.own.1
theorem OwnG.lt (h : OwnG e sz w base A n c vs) : ∀ k, (Value.slice A n c).ownBlock = some k → base ≤ k ∧ k < w.heap.size := h.own.lt
theorem OwnG.keep {K : Nat → Prop} (h : OwnG e sz w base A n c vs) (hk : SameK K w w') (hK : ∀ k, (Value.slice A n c).ownBlock = some k → K k) : OwnG e sz w' base A n c vs := by
  refine ⟨⟨h.own.1, ?_⟩, h.small⟩
  rcases h.own.2 with h2 | ⟨g, cap, cur, hv, hg, hh, r⟩
  · exact .inl h2
  · exact .inr ⟨g, cap, cur, hv, hg, (hk g (hK g (by rw [hv]; rfl))).trans hh, r⟩
theorem OwnG.below (h : OwnG e sz w base A n c vs) (hb : Below w.heap.size w w') : OwnG e sz w' base A n c vs := h.keep (SameK.below hb) fun k hk => (h.lt k hk).2
theorem OwnG.mono {b' : Nat} (h : OwnG e sz w base A n c vs) (hb : b' ≤ base) : OwnG e sz w b' A n c vs := by
  refine ⟨⟨h.own.1, ?_⟩, h.small⟩
  rcases h.own.2 with h2 | ⟨g, cap, cur, hv, hg, r⟩
  · exact .inl h2
  · exact .inr ⟨g, cap, cur, hv, by omega, r⟩
theorem OwnG.form (h : OwnG e sz w base A n c vs) (hn : 0 < n) : ∃ g, A = some ⟨g, 0, none⟩ ∧ base ≤ g ∧ g < w.heap.size := by
  rcases h.own.2 with ⟨_, h0⟩ | ⟨g, cap, cur, hv, hg, hh, _⟩
  · omega
  · simp only [Value.slice.injEq] at hv
    exact ⟨g, hv.1, hg, Blk.lt (w := w) (t := e) (cs := cur) hh⟩
theorem OwnG.cells (h : OwnG e sz w base A n c vs) : ∀ k, (Value.slice A n c).ownBlock = some k → ∃ cur : Array Value, base ≤ k ∧ w.heap[k]? = some (.cells cur e (0, 0)) := by
  intro k hk
  rcases h.own.2 with ⟨hv, _⟩ | ⟨g, cap, cur, hv, hb, hh, _⟩
  · rw [hv] at hk; cases hk
  · rw [hv] at hk
    injection hk with hk
    subst hk
    exact ⟨cur, hb, hh⟩
theorem OwnG.cellAt {g : Nat} (h : OwnG e sz w base (some ⟨g, 0, none⟩) n c vs) {j : Nat} (hj : j < n * sz) : w.cell? ⟨g, j, none⟩ = vs[j]? := h.own.cellAt j hj
theorem OwnG.frozen {g : Nat} (h : OwnG e sz w base (some ⟨g, 0, none⟩) n c vs) (j : Nat) : w.frozen? ⟨g, j, none⟩ = false := h.own.frozenAt j
theorem OwnG.set_ {g : Nat} (h : OwnG e sz w base (some ⟨g, 0, none⟩) n c vs) (j : Nat) (u : Value) : OwnG e sz (w.setCell ⟨g, j, none⟩ u) base (some ⟨g, 0, none⟩) n c (vs.set j u) := ⟨(h.own.stored j u).1, h.small⟩
end
/-- What append leaves. -/
structure AppG (e : TypeId) (sz : Nat) (w : World) (base : Nat) (A : Option Addr) (n c : Nat) (vs : List Value) (A' : Option Addr) (c' : Nat) (w' : World) : Prop where
  own : OwnG e sz w' base A' n c' vs
  grown : w.grownBy w' (Value.slice A n c).ownBlock
  lies : (Value.slice A' n c').ownBlock = (Value.slice A n c).ownBlock ∨ (Value.slice A' n c').ownBlock = some w.heap.size
/-- A slice that the call builds: its own row of cells, and items that are read outside it. -/
structure Bld {α : Type} (L : Nat → Prop) (Q : RdI α) (e : TypeId) (sz : Nat) (w0 w : World) (A : Option Addr) (n c : Nat) (vs : List Value) (ys : List α) : Prop where
  own : OwnG e sz w w0.heap.size A n c vs
  len : ys.length = n
  row : ∀ j (hj : j < ys.length), Q (fun b => L b ∧ b < w.heap.size ∧ (Value.slice A n c).ownBlock ≠ some b) w ((vs.drop (j * sz)).take sz) ys[j]
  below : Below w0.heap.size w0 w
section
variable {α : Type} {L : Nat → Prop} {Q : RdI α} {e : TypeId} {sz n c : Nat} {w0 w w' : World} {A : Option Addr} {vs : List Value} {ys : List α}
theorem Bld.start (L : Nat → Prop) (Q : RdI α) (e : TypeId) (sz : Nat) (w0 : World) : Bld L Q e sz w0 w0 none 0 0 [] [] := ⟨OwnG.nil_ _ _ _ _, rfl, fun j hj => by simp at hj, Below.refl _ _⟩
theorem Bld.to (hQ : RdOk Q) (h : Bld L Q e sz w0 w A n c vs ys) (hb : Below w.heap.size w w') : Bld L Q e sz w0 w' A n c vs ys :=
  ⟨h.own.below hb, h.len, fun j hj => hQ.mono (fun b _ hb2 => ⟨hb2.1, Nat.lt_of_lt_of_le hb2.2.1 hb.size, hb2.2.2⟩) (hQ.keep ((SameK.below hb).mono fun b hb2 => hb2.2.1) hb.size (h.row j hj)), h.below.trans (hb.mono h.below.size)⟩
/-- One item more. -/
theorem Bld.add (hQ : RdOk Q) {A9 : Option Addr} {c9 : Nat} {w9 : World} {us : List Value} {y : α} (h : Bld L Q e sz w0 w A n c vs ys) (hl : us.length = sz)
    (hy : Q (fun b => L b ∧ b < w.heap.size ∧ (Value.slice A n c).ownBlock ≠ some b) w us y) (happ : AppG e sz w w0.heap.size A (n + 1) c (vs ++ us) A9 c9 w9) :
    Bld L Q e sz w0 w9 A9 (n + 1) c9 (vs ++ us) (ys ++ [y]) := by
  have hown : (Value.slice A (n + 1) c).ownBlock = (Value.slice A n c).ownBlock := ownBlock_len A (n + 1) n c c
  have hsame : SameK (fun b => L b ∧ b < w.heap.size ∧ (Value.slice A n c).ownBlock ≠ some b) w w9 := by
    have := SameK.grown happ.grown
    rw [hown] at this
    exact this.mono fun b hb => hb.2
  have hup : ∀ b, b < w9.heap.size → (L b ∧ b < w.heap.size ∧ (Value.slice A n c).ownBlock ≠ some b) → L b ∧ b < w9.heap.size ∧ (Value.slice A9 (n + 1) c9).ownBlock ≠ some b := fun b hb h2 => ⟨h2.1, hb, by
    rcases happ.lies with h3 | h3
    · rw [h3, hown]; exact h2.2.2
    · rw [h3]; intro e; injection e with e; omega⟩
  have hvl := h.own.len
  refine ⟨happ.own, by simp [h.len], fun j hj => ?_, h.below.grown happ.grown h.below.size (fun g hg => (h.own.lt g (by rw [← hown]; exact hg)).1)⟩
  have hj2 : j < n + 1 := by simp [h.len] at hj; exact hj
  by_cases hjn : j < n
  · have hj3 : j < ys.length := by rw [h.len]; exact hjn
    have hm : (j + 1) * sz ≤ n * sz := Nat.mul_le_mul_right _ hjn
    rw [Nat.add_mul, Nat.one_mul] at hm
    have e1 : ((vs ++ us).drop (j * sz)).take sz = (vs.drop (j * sz)).take sz := by
      rw [List.drop_append_of_le_length (by omega), List.take_append_of_le_length (by rw [List.length_drop]; omega)]
    have e2 : (ys ++ [y])[j] = ys[j] := List.getElem_append_left hj3
    rw [e1, e2]
    exact hQ.mono hup (hQ.keep hsame happ.grown.size (h.row j hj3))
  · have hjn2 : j = n := by omega
    subst hjn2
    have e1 : ((vs ++ us).drop (j * sz)).take sz = us := by
      rw [List.drop_append, show vs.drop (j * sz) = [] from List.drop_eq_nil_of_le (by omega), hvl, Nat.sub_self, List.drop_zero, List.nil_append, List.take_of_length_le (by omega)]
    have e2 : (ys ++ [y])[j] = y := by rw [List.getElem_append_right (by rw [h.len]; exact Nat.le_refl _)]; simp
    rw [e1, e2]
    exact hQ.mono hup (hQ.keep hsame happ.grown.size hy)
/-- Outside a set of old blocks: everything that is read is new. -/
theorem Bld.far (h : Bld L Q e sz w0 w A n c vs ys) : 0 < n → ∀ ad, A = some ad → w0.heap.size ≤ ad.block := fun hn ad e => by
  obtain ⟨g, e2, hg, _⟩ := h.own.form hn
  rw [e] at e2; injection e2 with e2; rw [e2]; exact hg
end
end Go.Proofs.Ytoaiblhlpdaeoaa
/- Package braid: applyLetter. -/
namespace Go.Proofs.Ytoaiblhlpdaeoaa
set_option linter.unusedVariables false
set_option linter.unusedSimpArgs false
open Go.RowKit

theorem chg_set {g i : Nat} {w : World} {v : Value} : w.grownBy (w.setCell ⟨g, i, none⟩ v) (some g) := by
  have h := (Below.refl g w).setCell (p := ⟨g, i, none⟩) (Nat.le_refl _) v
  exact ⟨h.os, h.tape, h.output, h.size, fun b _ hne => Below.heap_setCell w ⟨g, i, none⟩ v b (fun e => hne (by rw [e]))⟩
/-- A row of polynomials. -/
structure RowB (w : World) (g n : Nat) (K : Nat → Prop) (X : Nat → LP) : Prop where
  blk : ∃ cs, Blk w g 54 cs
  at_ : ∀ j, j < n → ∃ B m d, w.cell? ⟨g, j * 2, none⟩ = some (.int .i64 (LP.canon (X j)).1) ∧ w.cell? ⟨g, j * 2 + 1, none⟩ = some (.slice B m d) ∧ SLK K w B m d (LP.canon (X j)).2
theorem RowB.lt {w : World} {g n : Nat} {K : Nat → Prop} {X : Nat → LP} (h : RowB w g n K X) : g < w.heap.size := by
  obtain ⟨cs, hc⟩ := h.blk
  exact hc.lt
theorem RowB.keep {w w' : World} {g n : Nat} {K : Nat → Prop} {X : Nat → LP} (h : RowB w g n K X) (hs : SameK (fun b => b = g ∨ K b) w w') (hz : w.heap.size ≤ w'.heap.size) : RowB w' g n K X := by
  refine ⟨?_, fun j hj => ?_⟩
  · obtain ⟨cs, hc⟩ := h.blk
    exact ⟨cs, (hs g (.inl rfl)).trans hc⟩
  · obtain ⟨B, m, d, h1, h2, h3⟩ := h.at_ j hj
    exact ⟨B, m, d, (hs.cell (a := ⟨g, j * 2, none⟩) (.inl rfl)).trans h1, (hs.cell (a := ⟨g, j * 2 + 1, none⟩) (.inl rfl)).trans h2, h3.keep (hs.mono fun b hb => .inr hb) hz⟩
theorem RowB.mono {w : World} {g n : Nat} {K K' : Nat → Prop} {X : Nat → LP} (h : RowB w g n K X) (hk : ∀ b, b < w.heap.size → K b → K' b) : RowB w g n K' X := by
  refine ⟨h.blk, fun j hj => ?_⟩
  obtain ⟨B, m, d, h1, h2, h3⟩ := h.at_ j hj
  exact ⟨B, m, d, h1, h2, h3.mono hk⟩
theorem SLK.setCell {w : World} {K : Nat → Prop} {B : Option Addr} {m d g i : Nat} {xs : List Int} {v : Value} (h : SLK K w B m d xs) (hg : ¬ K g) : SLK K (w.setCell ⟨g, i, none⟩ v) B m d xs :=
  ⟨h.sl.setCell (fun hn ad e hb => hg (by rw [← hb]; exact h.inK hn ad e)) i v, h.inK⟩
theorem RowB.congr {w : World} {g n : Nat} {K : Nat → Prop} {X Y : Nat → LP} (h : RowB w g n K X) (he : ∀ j, j < n → X j = Y j) : RowB w g n K Y := by
  refine ⟨h.blk, fun j hj => ?_⟩
  rw [← he j hj]
  exact h.at_ j hj
theorem RowB.below {w w' : World} {g n : Nat} {K : Nat → Prop} {X : Nat → LP} (h : RowB w g n K X) (hb : Below w.heap.size w w') : RowB w' g n K X := by
  refine ⟨?_, fun j hj => ?_⟩
  · obtain ⟨cs, hc⟩ := h.blk
    exact ⟨cs, hc.below hb hc.lt⟩
  · obtain ⟨B, m, d, h1, h2, h3⟩ := h.at_ j hj
    exact ⟨B, m, d, (hb.cell (p := ⟨g, j * 2, none⟩) h.lt).trans h1, (hb.cell (p := ⟨g, j * 2 + 1, none⟩) h.lt).trans h2, ⟨h3.sl.below hb, h3.inK⟩⟩
theorem RowB.frozen {w : World} {g n : Nat} {K : Nat → Prop} {X : Nat → LP} (h : RowB w g n K X) (i : Nat) : w.frozen? ⟨g, i, none⟩ = false := by
  obtain ⟨cs, hc⟩ := h.blk
  exact hc.frozen i
theorem RowB.set_ {w : World} {g n k : Nat} {K : Nat → Prop} {X : Nat → LP} {x : LP} {B : Option Addr} {m d : Nat} (h : RowB w g n K X) (hg : ¬ K g) (hk : k < n) (hs : SLK K w B m d (LP.canon x).2) :
    RowB ((w.setCell ⟨g, k * 2, none⟩ (.int .i64 (LP.canon x).1)).setCell ⟨g, k * 2 + 1, none⟩ (.slice B m d)) g n K (fun j => if j = k then x else X j) := by
  obtain ⟨cs, hc⟩ := h.blk
  have hc0 := hc.set_ (k * 2) (.int .i64 (LP.canon x).1)
  have hc1 := hc0.set_ (k * 2 + 1) (.slice B m d)
  obtain ⟨_, _, _, hk0, hk1, _⟩ := h.at_ k hk
  rw [hc.cell] at hk0 hk1
  obtain ⟨z0, _⟩ := Array.getElem?_eq_some_iff.1 hk0
  obtain ⟨z1, _⟩ := Array.getElem?_eq_some_iff.1 hk1
  refine ⟨⟨_, hc1⟩, fun j hj => ?_⟩
  show ∃ B_1 m_1 d_1, _
  by_cases e : j = k
  · subst e
    rw [if_pos rfl]
    refine ⟨B, m, d, ?_, ?_, (hs.setCell hg).setCell hg⟩
    · rw [hc1.cell, Array.getElem?_setIfInBounds, if_neg (by omega), Array.getElem?_setIfInBounds, if_pos rfl, if_pos (by simpa using z0)]
    · rw [hc1.cell, Array.getElem?_setIfInBounds, if_pos rfl, if_pos (by simpa using z1)]
  · rw [if_neg e]
    obtain ⟨B', m', d', h1, h2, h3⟩ := h.at_ j hj
    rw [hc.cell] at h1 h2
    refine ⟨B', m', d', ?_, ?_, (h3.setCell hg).setCell hg⟩
    · rw [hc1.cell, Array.getElem?_setIfInBounds, if_neg (by omega), Array.getElem?_setIfInBounds, if_neg (by omega)]; exact h1
    · rw [hc1.cell, Array.getElem?_setIfInBounds, if_neg (by omega), Array.getElem?_setIfInBounds, if_neg (by omega)]; exact h2
end Go.Proofs.Ytoaiblhlpdaeoaa
